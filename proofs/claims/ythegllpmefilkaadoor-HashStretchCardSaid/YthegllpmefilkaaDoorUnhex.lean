/-
  Digits read back: the code's way.
-/
import Derived.Test.YthegllpmefilkaaDoorShaAwake
namespace Go.Proofs.YthegllpmefilkaaDoor
open Go.RowKit Go.MapKept
/-- What a digit stands for. -/
def dgt (c : UInt8) : Option Nat := if 48 ≤ c.toNat ∧ c.toNat ≤ 57 then some (c.toNat - 48) else if 97 ≤ c.toNat ∧ c.toNat ≤ 102 then some (c.toNat - 87) else none
def dv (c : UInt8) : Nat := (dgt c).getD 0
theorem dv_lt (c : UInt8) : dv c < 16 := by
  unfold dv dgt
  split
  · simp; omega
  · split
    · simp; omega
    · simp
/-- Are there just digits, and an even number of them? -/
def hexOK (s : List UInt8) : Bool := s.length % 2 == 0 && s.all fun c => (dgt c).isSome
def unhexV (s : List UInt8) : List UInt8 := (List.range (s.length / 2)).map fun j => UInt8.ofNat (16 * dv (s.getD (2 * j) 0) + dv (s.getD (2 * j + 1) 0))
theorem unhexV_length (s : List UInt8) : (unhexV s).length = s.length / 2 := by simp [unhexV]
theorem unhexV_get (s : List UInt8) (j : Nat) (h : j < s.length / 2) : (unhexV s)[j]? = some (UInt8.ofNat (16 * dv (s.getD (2 * j) 0) + dv (s.getD (2 * j + 1) 0))) := by simp [unhexV, h]
theorem hexOK_odd {s : List UInt8} (h : s.length % 2 = 1) : hexOK s = false := by simp [hexOK, h]
theorem hexOK_bad {s : List UInt8} {j : Nat} (hj : j < s.length) (h : dgt (s.getD j 0) = none) : hexOK s = false := by
  have hm : s.getD j 0 ∈ s := by simp [hj]
  unfold hexOK
  rw [Bool.and_eq_false_iff]
  right
  rw [List.all_eq_false]
  exact ⟨_, hm, by rw [h]; simp⟩
theorem hexOK_good {s : List UInt8} (he : s.length % 2 = 0) (h : ∀ j, j < s.length → ∃ x, dgt (s.getD j 0) = some x) : hexOK s = true := by
  unfold hexOK
  rw [Bool.and_eq_true, List.all_eq_true]
  refine ⟨by simp [he], fun c hc => ?_⟩
  obtain ⟨j, hj, rfl⟩ := List.mem_iff_getElem.1 hc
  obtain ⟨x, hx⟩ := h j hj
  have : s.getD j 0 = s[j] := by simp [hj]
  rw [this] at hx
  simp [hx]
theorem bits_or_u8 (a b : Nat) (ha : a < 16) (hb : b < 16) : bits .or .u8 ((a : Int) * 16) (b : Int) = ((16 * a + b : Nat) : Int) := by
  have : ∀ a b : Fin 16, bits .or .u8 ((a.val : Int) * 16) (b.val : Int) = ((16 * a.val + b.val : Nat) : Int) := by decide +kernel
  exact this ⟨a, ha⟩ ⟨b, hb⟩
set_option maxHeartbeats 1000000 in
theorem digit_yes (w : World) (c : UInt8) (x : Nat) (h : dgt c = some x) :
    Calls Tryd.prog 23 #[.int .u8 c.toNat] w fun e w' => e = .returned (.tuple #[.int .u8 (dv c), .bool true]) ∧ w = w' := by
  have hv : dv c = x := by unfold dv; rw [h]; rfl
  rw [hv]
  clear hv
  have hlt := c.toNat_lt
  unfold dgt at h
  generalize c.toNat = n at *
  by_cases h1 : 48 ≤ n ∧ n ≤ 57
  · rw [if_pos h1] at h
    obtain rfl := Option.some.inj h
    obtain ⟨h1, h2⟩ := h1
    have e1 : (48 : Int) ≤ n := by omega
    have e2 : (n : Int) ≤ 57 := by omega
    have e3 : ((n - 48 : Nat) : Int) = (n : Int) - 48 := by omega
    have e4 : ((n : Int) - 48) % 256 = (n : Int) - 48 := by omega
    clear h
    go_enter Tryd.func23, Tryd.ntmps23
    go_wp2
    go_ret2
    exact ⟨by simp [e3], rfl⟩
  · rw [if_neg h1] at h
    by_cases h2 : 97 ≤ n ∧ n ≤ 102
    · rw [if_pos h2] at h
      obtain rfl := Option.some.inj h
      obtain ⟨h3, h4⟩ := h2
      have e0 : ¬ (n : Int) ≤ 57 := by omega
      have e00 : (48 : Int) ≤ n := by omega
      have e1 : (97 : Int) ≤ n := by omega
      have e2 : (n : Int) ≤ 102 := by omega
      have e3 : ((n - 87 : Nat) : Int) = (n : Int) - 97 + 10 := by omega
      clear h h1
      go_enter Tryd.func23, Tryd.ntmps23
      go_wp2
      go_ret2
      exact ⟨by simp [e3], rfl⟩
    · rw [if_neg h2] at h; cases h
set_option maxHeartbeats 1000000 in
theorem digit_no (w : World) (c : UInt8) (h : dgt c = none) :
    Calls Tryd.prog 23 #[.int .u8 c.toNat] w fun e w' => e = .returned (.tuple #[.int .u8 (dv c), .bool false]) ∧ w = w' := by
  have hv : dv c = 0 := by unfold dv; rw [h]; rfl
  rw [hv]
  clear hv
  have hlt := c.toNat_lt
  unfold dgt at h
  generalize c.toNat = n at *
  have h1 : ¬ (48 ≤ n ∧ n ≤ 57) := fun h1 => by rw [if_pos h1] at h; cases h
  rw [if_neg h1] at h
  have h2 : ¬ (97 ≤ n ∧ n ≤ 102) := fun h1 => by rw [if_pos h1] at h; cases h
  clear h
  rcases Nat.lt_or_ge n 48 with h3 | h3
  · have e1 : ¬ (48 : Int) ≤ n := by omega
    have e2 : ¬ (97 : Int) ≤ n := by omega
    clear h1 h2
    go_enter Tryd.func23, Tryd.ntmps23
    go_wp2
    go_ret2
    exact ⟨rfl, rfl⟩
  · have e1 : (48 : Int) ≤ n := by omega
    have e2 : ¬ (n : Int) ≤ 57 := by omega
    rcases Nat.lt_or_ge n 97 with h4 | h4
    · have e3 : ¬ (97 : Int) ≤ n := by omega
      clear h1 h2
      go_enter Tryd.func23, Tryd.ntmps23
      go_wp2
      go_ret2
      exact ⟨rfl, rfl⟩
    · have e3 : (97 : Int) ≤ n := by omega
      have e4 : ¬ (n : Int) ≤ 102 := by omega
      clear h1 h2
      go_enter Tryd.func23, Tryd.ntmps23
      go_wp2
      go_ret2
      exact ⟨rfl, rfl⟩
theorem digit_any (w : World) (c : UInt8) (b : Bool) (hb : (dgt c).isSome = b) :
    Calls Tryd.prog 23 #[.int .u8 c.toNat] w fun e w' => e = .returned (.tuple #[.int .u8 (dv c), .bool b]) ∧ w = w' := by
  cases h : dgt c with
  | none => rw [h] at hb; subst hb; exact digit_no w c h
  | some x => rw [h] at hb; subst hb; exact digit_yes w c x h
/-- The first k bytes, and noughts. -/
def unhexK (s : List UInt8) (k : Nat) : List UInt8 := (unhexV s).take k ++ List.replicate (s.length / 2 - k) 0
theorem unhexK_length (s : List UInt8) (k : Nat) (h : k ≤ s.length / 2) : (unhexK s k).length = s.length / 2 := by simp [unhexK, unhexV_length]; omega
theorem unhexK_set (s : List UInt8) (k : Nat) (h : k < s.length / 2) : (unhexK s k).set k (UInt8.ofNat (16 * dv (s.getD (2 * k) 0) + dv (s.getD (2 * k + 1) 0))) = unhexK s (k + 1) := by
  have e : s.length / 2 - k = (s.length / 2 - (k + 1)) + 1 := by omega
  have hk : ((unhexV s).take k).length = k := by simp [unhexV_length]; omega
  unfold unhexK
  rw [e, List.replicate_succ, List.set_append_right _ _ (by omega), hk, Nat.sub_self, List.set_cons_zero]
  have hlt : k < (unhexV s).length := by rw [unhexV_length]; exact h
  have hv : (unhexV s)[k] = UInt8.ofNat (16 * dv (s.getD (2 * k) 0) + dv (s.getD (2 * k + 1) 0)) := by
    have := unhexV_get s k h
    rw [List.getElem?_eq_getElem hlt] at this
    exact Option.some.inj this
  rw [List.take_succ_eq_append_getElem hlt, hv, List.append_assoc]
  rfl
theorem unhexK_full (s : List UInt8) : unhexK s (s.length / 2) = unhexV s := by
  unfold unhexK
  rw [List.take_of_length_le (by rw [unhexV_length]; exact Nat.le_refl _)]
  simp
theorem str_get (s : List UInt8) (j : Nat) (h : j < s.length) : (⟨s.toArray⟩ : ByteArray)[j]? = some (s.getD j 0) := by
  have : (⟨s.toArray⟩ : ByteArray)[j]? = s.toArray[j]? := rfl
  rw [this]
  simp [h]
/-- What comes back. -/
def UnhexOK (w : World) (s : List UInt8) (e : Ending) (w' : World) : Prop :=
  ∃ v, e = .returned (.tuple #[v, .bool (hexOK s)]) ∧ Fr [] w w' ∧ ((hexOK s = false ∧ v = .slice none 0 0) ∨ (hexOK s = true ∧ w'.ownsRow w.heap.size 5 1 v (s.length / 2) (cel (unhexV s))))
theorem EndAt.owns {w wr : World} {l : List UInt8} (h : EndAt w wr l) (hl : l.length ≤ maxLen) : wr.ownsRow w.heap.size 5 1 (.slice (some ⟨w.heap.size, 0, none⟩) l.length l.length) l.length (cel l) :=
  ⟨by rw [cel_length]; omega, .inr ⟨w.heap.size, l.length, _, rfl, Nat.le_refl _, h.row, Nat.le_refl _, hl, by simp [cel_length], by simp [cel_length, List.take_of_length_le]⟩⟩
set_option maxRecDepth 100000 in
set_option maxHeartbeats 2000000 in
theorem unhex_calls (w : World) (s : List UInt8) (hl : s.length ≤ 140737488351232) : Calls Tryd.prog 11 #[.string ⟨s.toArray⟩] w (UnhexOK w s) := by
  obtain ⟨n, hn⟩ : ∃ n, s.length = n := ⟨_, rfl⟩
  rw [hn] at hl
  rcases Nat.mod_two_eq_zero_or_one n with h2 | h2
  · obtain ⟨h, hh⟩ : ∃ h, n / 2 = h := ⟨_, rfl⟩
    have e1 : (n : Int) % 2 = 0 := by omega
    have e2 : (n : Int) / 2 = (h : Int) := by omega
    obtain ⟨i0, hi, hz0, hz1, hz2⟩ := info_parts Tryd.info5
    have HZ1 := Lib.hid hz1; have HI := Lib.hid hi; have HZ0 := Lib.hid hz0
    have hb : Hid (i0.bytes * h ≤ 281474976710656) := Lib.hid (by rw [hz2]; omega)
    clear hz0 hz1 hz2 hi
    obtain ⟨Z, hZ⟩ : ∃ Z, List.replicate h (0 : UInt8) = Z := ⟨_, rfl⟩
    have HE : Hid (w.alloc (.cells (madeCells (Value.int .u8 0).cells (h * i0.size)) 5) = w.alloc (.cells (cel Z).toArray 5)) :=
      Lib.hid (by rw [HZ1.out, Nat.mul_one, ← hZ, cel_rep, ← toList_madeCells_one]; rfl)
    have HA : Hid (EndAt w (w.alloc (.cells (cel Z).toArray 5)) (unhexK s 0)) := Lib.hid (by
      have : unhexK s 0 = Z := by rw [← hZ]; unfold unhexK; rw [hn, hh]; simp
      rw [this]; exact ⟨(Fr.refl [] w).alloc _, heap_alloc_last _ _⟩)
    have HN := Lib.hid hn
    have HH := Lib.hid hh
    have HEV := Lib.hid h2
    clear hZ hh h2
    go_enter Tryd.func11, Tryd.ntmps11
    go_wp2_with (first
      | ((with_reducible_and_instances refine id (α := wpList _ _ _ (⟨some 17, .makeSlice _ _ _, _, _, _, _⟩ :: _) _ _) ?_); refine wL_make rfl _ _ 23 rfl 5 i0 (.int .u8 0) Tryd.underlying23 HI.out HZ0.out h rfl rfl hb.out (by omega) ?_; rw [HE.out])
      | fail)
    go_wp2_with fail
    go_loopw [20] (fun v20 wr => ∃ k : Nat, k ≤ h ∧ v20 = .int .i64 k ∧ EndAt w wr (unhexK s k) ∧ ∀ j, j < 2 * k → ∃ x, dgt (s.getD j 0) = some x) (fun v20 _ => h - (intOf v20).toNat)
    case atStart => exact ⟨0, by omega, rfl, HA.out, fun j hj => by omega⟩
    case round =>
      clear HA
      obtain ⟨k, hk, rfl, hA, hgood⟩ := hrel
      have hfr := hA.fr
      by_cases hlt : k < h
      · have hx1 : ∀ W, (Instr.index 9 (.string ⟨s.toArray⟩) (.int .i64 (2 * (k : Int)))).run Tryd.prog W = .ok (.int .u8 (s.getD (2 * k) 0).toNat) W := fun W => run_indexS Tryd.underlying9 ⟨s.toArray⟩ .i64 (2 * (k : Int)) (2 * k) (by omega) _ (str_get s (2 * k) (by have := HH.out; omega)) W
        have hx2 : ∀ W, (Instr.index 9 (.string ⟨s.toArray⟩) (.int .i64 (2 * (k : Int) + 1))).run Tryd.prog W = .ok (.int .u8 (s.getD (2 * k + 1) 0).toNat) W := fun W => run_indexS Tryd.underlying9 ⟨s.toArray⟩ .i64 (2 * (k : Int) + 1) (2 * k + 1) (by omega) _ (str_get s (2 * k + 1) (by have := HH.out; omega)) W
        have hset := unhexK_set s k (by rw [HN.out, HH.out]; exact hlt)
        have hb1 : dgt (s.getD (2 * k) 0) = none → hexOK s = false := hexOK_bad (by have := HH.out; omega)
        have hb2 : dgt (s.getD (2 * k + 1) 0) = none → hexOK s = false := hexOK_bad (by have := HH.out; omega)
        have hgd : ∀ x y, dgt (s.getD (2 * k) 0) = some x → dgt (s.getD (2 * k + 1) 0) = some y → ∀ j, j < 2 * (k + 1) → ∃ x, dgt (s.getD j 0) = some x := fun x y hx hy j hj => by
          by_cases h1 : j < 2 * k
          · exact hgood j h1
          · by_cases h2 : j = 2 * k
            · subst h2; exact ⟨x, hx⟩
            · obtain rfl : j = 2 * k + 1 := by omega
              exact ⟨y, hy⟩
        generalize s.getD (2 * k) 0 = c1 at *
        generalize s.getD (2 * k + 1) 0 = c2 at *
        have l1 := dv_lt c1
        have l2 := dv_lt c2
        have hor := bits_or_u8 (dv c1) (dv c2) l1 l2
        have hcl : wr.cell? ⟨w.heap.size, k, none⟩ = some (.int .u8 ((unhexK s k).getD k 0).toNat) := hA.cell (by rw [unhexK_length _ _ (by rw [HN.out, HH.out]; exact hk), HN.out, HH.out]; exact hlt)
        have hfl := box_free hA.row k
        have hA2 := hA.next k (UInt8.ofNat (16 * dv c1 + dv c2))
        rw [hset, show (UInt8.ofNat (16 * dv c1 + dv c2)).toNat = 16 * dv c1 + dv c2 from by rw [UInt8.toNat_ofNat']; omega, ← hor] at hA2
        clear hor
        have HA2 := Lib.hid hA2; have HGD := Lib.hid hgd; have HFR := Lib.hid hfr; have HB1 := Lib.hid hb1; have HB2 := Lib.hid hb2
        clear hA hA2 hgd hgood hfr hset hb1 hb2
        have HD1 : ∀ W b, (dgt c1).isSome = b → Calls Tryd.prog 23 #[.int .u8 c1.toNat] W fun e w' => e = .returned (.tuple #[.int .u8 (dv c1), .bool b]) ∧ W = w' := fun W b hb => digit_any W c1 b hb
        have HD2 : ∀ W b, (dgt c2).isSome = b → Calls Tryd.prog 23 #[.int .u8 c2.toNat] W fun e w' => e = .returned (.tuple #[.int .u8 (dv c2), .bool b]) ∧ W = w' := fun W b hb => digit_any W c2 b hb
        have HDA := Lib.hid HD1; have HDB := Lib.hid HD2
        clear HD1 HD2
        obtain ⟨d1, hd1⟩ : ∃ d, dgt c1 = d := ⟨_, rfl⟩
        obtain ⟨d2, hd2⟩ : ∃ d, dgt c2 = d := ⟨_, rfl⟩
        generalize dv c1 = y1 at *
        generalize dv c2 = y2 at *
        generalize hn1 : c1.toNat = n1 at *
        generalize hn2 : c2.toNat = n2 at *
        have HE1 := Lib.hid hd1; have HE2 := Lib.hid hd2
        clear hd1 hd2 hn1 hn2
        cases d1 with
        | none =>
          have hok := HB1.out HE1.out
          have HOK := Lib.hid hok; clear hok
          go_wp2_with fail
          refine (HDA.out wr false (by rw [HE1.out]; rfl)).mono ?_
          rintro e w1 ⟨rfl, rfl⟩
          go_wp2_with fail
          refine (HDB.out wr _ rfl).mono ?_
          rintro e w1 ⟨rfl, rfl⟩
          go_wp2_with fail
          go_ret2
          exact ⟨_, by rw [HOK.out]; rfl, HFR.out, .inl ⟨HOK.out, rfl⟩⟩
        | some x =>
          cases d2 with
          | none =>
            have hok := HB2.out HE2.out
            have HOK := Lib.hid hok; clear hok
            go_wp2_with fail
            refine (HDA.out wr true (by rw [HE1.out]; rfl)).mono ?_
            rintro e w1 ⟨rfl, rfl⟩
            go_wp2_with fail
            refine (HDB.out wr false (by rw [HE2.out]; rfl)).mono ?_
            rintro e w1 ⟨rfl, rfl⟩
            go_wp2_with fail
            go_ret2
            exact ⟨_, by rw [HOK.out]; rfl, HFR.out, .inl ⟨HOK.out, rfl⟩⟩
          | some y =>
            go_wp2_with fail
            refine (HDA.out wr true (by rw [HE1.out]; rfl)).mono ?_
            rintro e w1 ⟨rfl, rfl⟩
            go_wp2_with fail
            refine (HDB.out wr true (by rw [HE2.out]; rfl)).mono ?_
            rintro e w1 ⟨rfl, rfl⟩
            go_wp2_with fail
            go_roundw
            case rel => exact ⟨k + 1, by omega, by go_num, HA2.out, HGD.out x y HE1.out HE2.out⟩
            case measure => simp [intOf]; omega
      · obtain rfl : k = h := by omega
        have hok : hexOK s = true := hexOK_good (by rw [HN.out]; exact HEV.out) (fun j hj => hgood j (by have := HH.out; have := HEV.out; omega))
        have hl2 : (unhexK s k).length = k := by rw [unhexK_length _ _ (by rw [HN.out, HH.out]; exact Nat.le_refl _), HN.out, HH.out]
        have ho := hA.owns (by rw [hl2]; unfold maxLen; omega)
        have hful : unhexK s k = unhexV s := by rw [← HH.out, ← HN.out]; exact unhexK_full s
        rw [hl2, hful] at ho
        have HO := Lib.hid ho; have HFR := Lib.hid hfr; have HOK := Lib.hid hok
        clear hA hgood hfr hok hl2 ho hful
        go_wp2_with fail
        go_ret2
        exact ⟨_, by rw [HOK.out]; rfl, HFR.out, .inr ⟨HOK.out, by rw [HN.out, HH.out]; exact HO.out⟩⟩
  · have e1 : (n : Int) % 2 = 1 := by omega
    have hbad := hexOK_odd (s := s) (by rw [hn]; exact h2)
    have HB := Lib.hid hbad; clear hbad h2
    go_enter Tryd.func11, Tryd.ntmps11
    go_wp2_with fail
    go_ret2
    exact ⟨_, by rw [HB.out]; rfl, Fr.refl _ _, .inl ⟨HB.out, rfl⟩⟩
end Go.Proofs.YthegllpmefilkaaDoor
