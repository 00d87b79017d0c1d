/-
  wal: what a store tells, held against a list of kinds; a sector's kinds.
-/
import Derived.Test.YtoifpbifipgpkaaWp0
import Derived.Test.YtoifpbifipgpkaaWalB
import Derived.Test.YtoifpbifipgpkaaWal30
namespace Go.Proofs.Ytoifpbifipgpkaa
open Go.RowKit Go.MapKept
theorem madeZ : madeCells #[.int .u8 0] 64 = (cel zeros).toArray := by
  have h : ∀ n : Nat, madeCells #[.int .u8 0] n = (cel (List.replicate n 0)).toArray := by
    intro n
    apply Array.ext_getElem?
    intro j
    by_cases hj : j < n
    · simp [madeCells, cel, hj, Nat.mod_one]
    · simp [madeCells, cel, hj]
  exact h 64
/-- What a sector of a kind reads as. -/
def kindN (k : Nat) : List UInt8 := if 0 < k then bys k 64 else zeros
theorem kindN_length (k : Nat) : (kindN k).length = 64 := by
  unfold kindN
  split
  · exact bys_length _ _
  · rfl
theorem secK {k : Nat} {z : Int} (hz : z = (k : Int)) (h0 : 0 < k) (hk : k ≤ 100000) : ∀ W : World, Calls Try.prog 14 #[.int .i64 z] W fun e w' => ∃ g cap, e = .returned (.slice (some ⟨g, 0, none⟩) 64 cap) ∧ Fr [] W w' ∧ W.heap.size ≤ g ∧ g < w'.heap.size ∧ w'.rangeAt g 0 (cel (kindN k)) ∧ w'.there g 0 64 ∧ 64 ≤ cap ∧ cap ≤ 9223372036854775807 := by
  subst hz
  unfold kindN
  rw [if_pos h0]
  exact fun W => sector_calls W k hk
/-- Sixteen ints in an array. -/
def arrK (F : Nat → Nat) : Array Value := ((List.range 16).map fun p => Value.int .i64 (F p)).toArray
theorem arrK_size (F : Nat → Nat) : (arrK F).size = 16 := by simp [arrK]
theorem arrK_get (F : Nat → Nat) {p : Nat} (h : p < 16) : (arrK F)[p]? = some (.int .i64 (F p)) := by simp [arrK, h]
theorem arrK_set (F : Nat → Nat) {p : Nat} (_h : p < 16) (x : Nat) : (arrK F).setIfInBounds p (.int .i64 x) = arrK (fun q => if q = p then x else F q) := by
  apply Array.ext_getElem?
  intro q
  by_cases hq : q < 16
  · by_cases e : p = q
    · subst e
      rw [Array.getElem?_setIfInBounds_self_of_lt (by simp [arrK, hq]), arrK_get _ hq, if_pos rfl]
    · have e' : ¬ q = p := fun h => e h.symm
      rw [Array.getElem?_setIfInBounds_ne e, arrK_get _ hq, arrK_get _ hq, if_neg e']
  · simp [arrK, hq]
theorem arrK_range {w : World} {g : Nat} {F : Nat → Nat} {T : TypeId} {fr : Nat × Nat} (h : w.heap[g]? = some (.cells (arrK F) T fr)) : w.rangeAt g 0 (arrK F).toList := fun j v hv => by
  rw [box_cell h, Nat.zero_add]; simpa using hv
theorem arrK_one (F : Nat → Nat) : (arrK F).all (·.oneCell') = true := by
  simp [arrK, Value.oneCell']
theorem Try.size16 : (Try.prog.info? 49).map (·.size) = some 16 := by kernel_rfl
section
variable {w : World} {bs : List Nat} {s p l m n q : Nat} {b : Int} {S : Sv}
theorem tell_len (h : StAt w bs s p l m n q b S) (hv : S.v.d = false) {i : Nat} (hi : i + 300 < n) : (S.tell i).length = 64 := by
  obtain ⟨u, wv, ms, B, hl⟩ := h.lies
  unfold Sv.tell
  cases hU : S.U i with
  | some t => exact (hl.und.dom i t hU).2.2
  | none =>
    cases hC : overL S.Cs i with
    | some t => exact (h.overDom hC).2.2
    | none =>
      have := Dv.text_len h.dev (i := 300 + i) (by omega)
      rw [hv] at this
      exact this
theorem askedK (S : Sv) : S.asked S.v.c = S := rfl
def TellsPost (w : World) (bs : List Nat) (s p l m n q : Nat) (b : Int) (S : Sv) (F : Nat → Nat) (e : Ending) (w' : World) : Prop :=
  Fr bs w w' ∧ ∃ (c : Int) (r : Bool), StAt w' bs s p l m n q (b + 16) (S.asked c) ∧ e = .returned (.bool r) ∧ (r = true ↔ ∀ j, j < 16 → S.tell j = kindN (F j))
set_option maxRecDepth 100000 in
set_option maxHeartbeats 4000000 in
theorem tells_calls (h : StAt w bs s p l m n q b S) (hg : S.gone = false) (hv : S.v.d = false) (hbl : ∀ x ∈ bs, x < w.heap.size) (hn : 316 ≤ n) (hb : b < 8000000000000000000) (F : Nat → Nat) (hF : ∀ j, j < 16 → F j ≤ 100000) :
    Calls Try.prog 27 #[.pointer (some ⟨s, 0, none⟩), .agg (arrK F)] w (TellsPost w bs s p l m n q b S F) := by
  have H := Lib.hid h; have HBL := Lib.hid hbl; have HFK := Lib.hid hF
  obtain ⟨i0, hi, hz0, hz1, hz2⟩ := info_parts Try.info5
  have HZ1 := Lib.hid hz1; have HI0 := Lib.hid hi; have HZ0 := Lib.hid hz0
  have HB64 : Hid (i0.bytes * 64 ≤ 281474976710656) := Lib.hid (by rw [hz2]; omega)
  clear hz0 hz1 hz2 hi h hbl hF
  have hbox := heap_alloc_new w (.cells (arrK F) 49)
  have hfa : Fr [] w (w.alloc (.cells (arrK F) 49)) := (Fr.refl [] w).alloc _
  have HBX := Lib.hid hbox; have HFA := Lib.hid hfa
  clear hbox hfa
  go_enter Try.func27, Try.ntmps27
  go_wp2_with (first
    | ((with_reducible_and_instances refine id (α := wpList _ _ _ (⟨some 3, .box 49 (.tmp 1), _, _, _, _⟩ :: _) _ _) ?_); refine wL_box rfl 49 (.tmp 1) rfl (arrK F) rfl ?_)
    | fail)
  obtain ⟨A, hA⟩ : ∃ A, w.heap.size = A := ⟨_, rfl⟩
  rw [hA] at HBX ⊢
  generalize w.alloc (.cells (arrK F) 49) = W0 at *
  have hAb : A ∉ bs := fun hx => by have := HBL.out A hx; omega
  clear hA
  go_wp2_with fail
  go_loopw [5] (fun v5 wr => ∃ (i : Nat) (c : Int), i ≤ 16 ∧ v5 = .int .i64 i ∧ StAt wr bs s p l m n q (b + i) (S.asked c) ∧ Fr bs W0 wr ∧ ∀ j, j < i → S.tell j = kindN (F j)) (fun v5 _ => 16 - (intOf v5).toNat)
  case atStart => exact ⟨0, S.v.c, by omega, rfl, by rw [askedK]; exact (H.out.keep HFA.out (by simp)).more (by omega), Fr.refl _ _, fun j hj => by omega⟩
  case round =>
    rename World => wr
    obtain ⟨i, c, hi, rfl, hst, hf, hall⟩ := hrel
    have hw1 : IntKind.i64.wrap ((i : Int) + 1) = (i : Int) + 1 := IntWalk.i64_in _ (by omega)
    have HALL := Lib.hid hall; have HF := Lib.hid hf
    clear hall hf
    by_cases hlt : i < 16
    · have g1 : (i : Int) < 16 := by omega
      have g2 : (0 : Int) ≤ (i : Int) := by omega
      have g3 : ((i : Int)).toNat = i := by omega
      have hrd := st_read hst hg hv i (by omega) (by omega)
      have htl := tell_len hst hv (i := i) (by omega)
      rw [show (S.asked c).tell i = S.tell i from rfl] at hrd htl
      obtain ⟨T, hT⟩ : ∃ T, S.tell i = T := ⟨_, rfl⟩
      rw [hT] at hrd htl
      have HRD := Lib.hid hrd; have HT := Lib.hid hT
      have hFi := HFK.out i hlt
      clear hrd hT hst
      go_wp2_with fail
      refine HRD.out.mono ?_
      rintro e w2 ⟨x, c2, rfl, hf2, hst2, hx⟩
      obtain ⟨g, cap, rfl, hs2⟩ := StrB.b64 htl hx
      have hst2' : StAt w2 bs s p l m n q (b + i + 1) (S.asked c2) := hst2
      have HS2 := Lib.hid hs2; have HST2 := Lib.hid hst2'; have HF2 := Lib.hid (HF.out.trans hf2)
      have hbx2 := (HF.out.trans hf2).keep HBX.out hAb
      have HB2 := Lib.hid hbx2
      clear hst2 hst2' hf2 hs2 hx HRD hbx2
      obtain ⟨k, hk⟩ : ∃ k, F i = k := ⟨_, rfl⟩
      have hbz : ∀ W, Fr [] w2 W → W.cell? ⟨A, i, none⟩ = some (.int .i64 k) := fun W hW => (box_cell (hW.keep HB2.out (by simp)) i).trans (by rw [arrK_get F hlt, hk])
      have HBZ := Lib.hid hbz
      rw [hk] at hFi
      have HK := Lib.hid hk
      clear hbz hk
      have hfz : Fr [] w2 (w2.alloc (.cells (cel zeros).toArray 5)) := (Fr.refl [] w2).alloc _
      have hcz := HBZ.out _ hfz
      by_cases k0 : 0 < k
      · have k1 : (0 : Int) < (k : Int) := by omega
        have HSEC := Lib.hid (secK (k := k) rfl k0 hFi)
        have HFZ := Lib.hid hfz
        clear hfz
        go_wp2_with (first
          | ((with_reducible_and_instances refine id (α := wpList _ _ _ (⟨some 19, .makeSlice _ _ _, _, _, _, _⟩ :: _) _ _) ?_); refine wL_make rfl _ _ 29 rfl 5 i0 (.int .u8 0) Try.underlying29 HI0.out HZ0.out 64 rfl rfl HB64.out (by omega) ?_; rw [HZ1.out, Nat.mul_one, show madeCells (Value.int .u8 0).cells 64 = (cel zeros).toArray from madeZ])
          | fail)
        refine (HSEC.out _).mono ?_
        rintro e w3 ⟨g3, cap3, rfl, hf3, _, _, hr3, _, _, _⟩
        have hx1 := HS2.out w3 (HFZ.out.trans hf3)
        have hx2 := StrB.range (cap := cap3) (kindN_length k) hr3 w3 (Fr.refl [] w3)
        have HF3 := Lib.hid (HFZ.out.trans hf3)
        clear hf3 hr3 hcz
        obtain ⟨T2, hT2⟩ : ∃ T2, kindN k = T2 := ⟨_, rfl⟩
        rw [hT2] at hx2
        have HT2 := Lib.hid hT2
        clear hT2
        by_cases e : T = T2
        · subst e
          have hsame := beq_selfB ⟨T.toArray⟩
          go_wp2_with fail
          refine ⟨⟨i + 1, c2, by omega, by go_num, (HST2.out.keep HF3.out (by simp)).more (by omega), HF2.out.trans (HF3.out.mono (by simp)), fun j hj => ?_⟩, ?_⟩
          · by_cases e : j < i
            · exact HALL.out j e
            · obtain rfl : j = i := by omega
              rw [HT.out, HK.out, HT2.out]
          · simp [intOf]; omega
        · have hd2 : (T == T2) = false := beq_eq_false_iff_ne.2 e
          have hdiff : ((⟨T.toArray⟩ : ByteArray) == ⟨T2.toArray⟩) = false := by
            cases hb : ((⟨T.toArray⟩ : ByteArray) == ⟨T2.toArray⟩) with
            | false => rfl
            | true =>
              have := (bytes_beq _ _).1 hb
              injection this with this
              have := congrArg Array.toList this
              exact absurd (by simpa using this) e
          go_wp2_with fail
          go_ret
          exact ⟨(HFA.out.mono (by simp)).trans (HF2.out.trans (HF3.out.mono (by simp))), c2, false, (HST2.out.keep HF3.out (by simp)).more (by omega), rfl, ⟨fun h => (by cases h), fun h => absurd ((HT.out.symm.trans (h i hlt)).trans (by rw [HK.out, HT2.out])) e⟩⟩
      · have k1 : ¬ (0 : Int) < (k : Int) := by omega
        have hx1 := HS2.out _ hfz
        have hx2 := StrB.range (s := zeros) (n := 64) (cap := 64) rfl (rangeAt_new w2 (cel zeros) 5 w2.heap.size rfl) _ (Fr.refl [] _)
        have hwz : kindN k = zeros := by unfold kindN; rw [if_neg k0]
        have HFZ := Lib.hid hfz; have HWZ := Lib.hid hwz
        clear hfz hwz
        by_cases e : T = zeros
        · have hsame : ((⟨T.toArray⟩ : ByteArray) == ⟨zeros.toArray⟩) = true := by rw [e]; exact beq_selfB _
          go_wp2_with (first
            | ((with_reducible_and_instances refine id (α := wpList _ _ _ (⟨some 19, .makeSlice _ _ _, _, _, _, _⟩ :: _) _ _) ?_); refine wL_make rfl _ _ 29 rfl 5 i0 (.int .u8 0) Try.underlying29 HI0.out HZ0.out 64 rfl rfl HB64.out (by omega) ?_; rw [HZ1.out, Nat.mul_one, show madeCells (Value.int .u8 0).cells 64 = (cel zeros).toArray from madeZ])
            | fail)
          refine ⟨⟨i + 1, c2, by omega, by go_num, (HST2.out.keep HFZ.out (by simp)).more (by omega), HF2.out.trans (HFZ.out.mono (by simp)), fun j hj => ?_⟩, ?_⟩
          · by_cases e2 : j < i
            · exact HALL.out j e2
            · obtain rfl : j = i := by omega
              rw [HT.out, HK.out, HWZ.out, e]
          · simp [intOf]; omega
        · have hd2 : (T == zeros) = false := beq_eq_false_iff_ne.2 e
          have hdiff : ((⟨T.toArray⟩ : ByteArray) == ⟨zeros.toArray⟩) = false := by
            cases hb : ((⟨T.toArray⟩ : ByteArray) == ⟨zeros.toArray⟩) with
            | false => rfl
            | true =>
              have := (bytes_beq _ _).1 hb
              injection this with this
              have := congrArg Array.toList this
              exact absurd (by simpa using this) e
          go_wp2_with (first
            | ((with_reducible_and_instances refine id (α := wpList _ _ _ (⟨some 19, .makeSlice _ _ _, _, _, _, _⟩ :: _) _ _) ?_); refine wL_make rfl _ _ 29 rfl 5 i0 (.int .u8 0) Try.underlying29 HI0.out HZ0.out 64 rfl rfl HB64.out (by omega) ?_; rw [HZ1.out, Nat.mul_one, show madeCells (Value.int .u8 0).cells 64 = (cel zeros).toArray from madeZ])
            | fail)
          go_ret
          exact ⟨(HFA.out.mono (by simp)).trans (HF2.out.trans (HFZ.out.mono (by simp))), c2, false, (HST2.out.keep HFZ.out (by simp)).more (by omega), rfl, ⟨fun h => (by cases h), fun h => absurd ((HT.out.symm.trans (h i hlt)).trans (by rw [HK.out, HWZ.out])) e⟩⟩
    · obtain rfl : i = 16 := by omega
      have HST := Lib.hid hst
      clear hst
      go_wp2_with fail
      go_ret
      exact ⟨(HFA.out.mono (by simp)).trans HF.out, c, true, HST.out.more (by omega), rfl, ⟨fun _ => HALL.out, fun _ => rfl⟩⟩
end
end Go.Proofs.Ytoifpbifipgpkaa
