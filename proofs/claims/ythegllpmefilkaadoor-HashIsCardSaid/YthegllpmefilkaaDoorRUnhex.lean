/-
  Digits read back: the document's own way.
-/
import Derived.Test.YthegllpmefilkaaDoorRHex
import Derived.Test.YthegllpmefilkaaDoorStretch
import Derived.Deep.QuietTactic
import Derived.BigQuiet
namespace Go.Proofs.YthegllpmefilkaaDoor
open Go.RowKit Go.MapKept
theorem hexD_dgt (c : UInt8) (k : Nat) (hk : k < 16) : (hexD k = c) ↔ dgt c = some k := by
  have h : ∀ n : Fin 256, ∀ k : Fin 16, (hexD k.val = UInt8.ofNat n.val) ↔ dgt (UInt8.ofNat n.val) = some k.val := by decide +kernel
  have := h ⟨c.toNat, c.toNat_lt⟩ ⟨k, hk⟩
  simpa using this
/-- What the look has found among the first k digits. -/
def fnd (c : UInt8) (k : Nat) : Int := match dgt c with | some x => if x < k then (x : Int) else -1 | none => -1
theorem fnd_zero (c : UInt8) : fnd c 0 = -1 := by unfold fnd; split <;> simp
theorem fnd_hit (c : UInt8) (k : Nat) (h : dgt c = some k) : fnd c (k + 1) = k := by unfold fnd; rw [h]; simp
theorem fnd_miss (c : UInt8) (k : Nat) (h : dgt c ≠ some k) : fnd c (k + 1) = fnd c k := by
  unfold fnd
  cases hd : dgt c with
  | none => rfl
  | some x =>
    have hne : x ≠ k := fun e => h (by rw [hd, e])
    have : (x < k + 1) = (x < k) := by simp only [eq_iff_iff]; omega
    simp only [this]
theorem fnd_none (c : UInt8) (h : dgt c = none) : fnd c 16 = -1 := by unfold fnd; rw [h]
theorem fnd_some (c : UInt8) (x : Nat) (h : dgt c = some x) (hx : x < 16) : fnd c 16 = x := by unfold fnd; rw [h]; simp [hx]
theorem fnd_bd (c : UInt8) (k : Nat) (h : k ≤ 16) : -1 ≤ fnd c k ∧ fnd c k < 16 := by
  unfold fnd
  split
  · split <;> omega
  · omega
/-- Behind i digits. -/
def rK (s : List UInt8) (i : Nat) : List UInt8 := (List.range ((i + 1) / 2)).map fun j => if 2 * j + 1 < i then UInt8.ofNat (16 * dv (s.getD (2 * j) 0) + dv (s.getD (2 * j + 1) 0)) else UInt8.ofNat (16 * dv (s.getD (2 * j) 0))
theorem rK_length (s : List UInt8) (i : Nat) : (rK s i).length = (i + 1) / 2 := by simp [rK]
theorem rK_get (s : List UInt8) (i j : Nat) (h : j < (i + 1) / 2) : (rK s i)[j]? = some (if 2 * j + 1 < i then UInt8.ofNat (16 * dv (s.getD (2 * j) 0) + dv (s.getD (2 * j + 1) 0)) else UInt8.ofNat (16 * dv (s.getD (2 * j) 0))) := by simp [rK, h]
theorem rK_even (s : List UInt8) (h : Nat) : rK s (2 * h + 1) = rK s (2 * h) ++ [UInt8.ofNat (16 * dv (s.getD (2 * h) 0))] := by
  apply List.ext_getElem?
  intro j
  have e1 : (2 * h + 1 + 1) / 2 = h + 1 := by omega
  have e0 : (2 * h + 1) / 2 = h := by omega
  by_cases hj : j < h
  · rw [rK_get _ _ _ (by omega), List.getElem?_append_left (by rw [rK_length]; omega), rK_get _ _ _ (by omega), if_pos (by omega), if_pos (by omega)]
  · by_cases hj2 : j = h
    · subst hj2
      rw [rK_get _ _ _ (by omega), if_neg (by omega), List.getElem?_append_right (by rw [rK_length]; omega), rK_length, e0, Nat.sub_self]
      rfl
    · rw [List.getElem?_eq_none (by rw [rK_length]; omega), List.getElem?_eq_none (by rw [List.length_append, rK_length]; simp; omega)]
theorem rK_odd (s : List UInt8) (h : Nat) : rK s (2 * h + 2) = (rK s (2 * h + 1)).set h (UInt8.ofNat (16 * dv (s.getD (2 * h) 0) + dv (s.getD (2 * h + 1) 0))) := by
  apply List.ext_getElem?
  intro j
  rw [List.getElem?_set, rK_length]
  by_cases hj : j < h + 1
  · rw [rK_get _ _ _ (by omega)]
    by_cases e : h = j
    · subst e
      rw [if_pos (by omega), if_pos rfl, if_pos (by omega)]
    · rw [if_pos (by omega), if_neg e, rK_get _ _ _ (by omega), if_pos (by omega)]
  · rw [List.getElem?_eq_none (by rw [rK_length]; omega), if_neg (by omega), List.getElem?_eq_none (by rw [rK_length]; omega)]
theorem rK_mid (s : List UInt8) (h : Nat) : (rK s (2 * h + 1)).getD h 0 = UInt8.ofNat (16 * dv (s.getD (2 * h) 0)) := by
  rw [List.getD_eq_getElem?_getD, rK_get _ _ _ (by omega), if_neg (by omega)]; rfl
theorem rK_full (s : List UInt8) (h : Nat) (hs : s.length = 2 * h) : rK s (2 * h) = unhexV s := by
  apply List.ext_getElem?
  intro j
  by_cases hj : j < h
  · rw [rK_get _ _ _ (by omega), if_pos (by omega), unhexV_get _ _ (by omega)]
  · rw [List.getElem?_eq_none (by rw [rK_length]; omega), List.getElem?_eq_none (by rw [unhexV_length]; omega)]
/-- A store into what is owned. -/
theorem own_set {w : World} {B g n cap : Nat} {T : TypeId} {xs : List Value} (h : w.ownsRow B T 1 (.slice (some ⟨g, 0, none⟩) n cap) n xs) (j : Nat) (hj : j < n) (u : Value) : (w.setCell ⟨g, j, none⟩ u).ownsRow B T 1 (.slice (some ⟨g, 0, none⟩) n cap) n (xs.set j u) := by
  obtain ⟨h1, h2⟩ := h
  rcases h2 with ⟨h3, _⟩ | ⟨g', cap', cur, h3, h4, h5, h6, h7, h8, h9⟩
  · cases h3
  · cases h3
    refine ⟨by simpa using h1, .inr ⟨g, cap, _, rfl, h4, box_set h5 j u, h6, h7, by simpa using h8, ?_⟩⟩
    rw [← h9]
    simp [List.take_set]
theorem own_cell {w : World} {B g n cap : Nat} {T : TypeId} {xs : List Value} (h : w.ownsRow B T 1 (.slice (some ⟨g, 0, none⟩) n cap) n xs) (j : Nat) (hj : j < n) : w.cell? ⟨g, j, none⟩ = xs[j]? ∧ w.frozen? ⟨g, j, none⟩ = false ∧ B ≤ g := by
  obtain ⟨h1, h2⟩ := h
  rcases h2 with ⟨h3, _⟩ | ⟨g', cap', cur, h3, h4, h5, h6, h7, h8, h9⟩
  · cases h3
  · cases h3
    refine ⟨?_, box_free h5 j, h4⟩
    rw [box_cell h5, ← h9, List.getElem?_take, if_pos (by omega)]
    simp
theorem ownsRow_empty (w : World) (T : TypeId) (k : Nat) (B : Nat) (hB : B ≤ w.heap.size): (w.alloc (.cells #[] T)).ownsRow B T k (.slice (some ⟨w.heap.size, 0, none⟩) 0 0) 0 [] := by
  refine ⟨by simp, .inr ⟨w.heap.size, 0, #[], rfl, hB, heap_alloc_new _ _, Nat.le_refl _, by unfold maxLen; omega, by simp, by simp⟩⟩
theorem run_build0 (w : World) : (Instr.buildSlice 23 0 #[]).run Tryd.prog w = .ok (.slice (some ⟨w.heap.size, 0, none⟩) 0 0) (w.alloc (.cells #[] 5)) := by kernel_rfl
set_option maxRecDepth 100000 in
set_option maxHeartbeats 4000000 in
theorem runhex_calls (w : World) (s : List UInt8) (hl : s.length ≤ 70368744177664) : Calls Tryd.prog 13 #[.string ⟨s.toArray⟩] w (UnhexOK w s) := by
  obtain ⟨n, hn⟩ : ∃ n, s.length = n := ⟨_, rfl⟩
  rw [hn] at hl
  rcases Nat.mod_two_eq_zero_or_one n with h2 | h2
  · obtain ⟨i0, hi, hz0, hz1, hz2⟩ := info_parts Tryd.info5
    have HI := Lib.hid hi; have HZ0 := Lib.hid hz0; have HZ1 := Lib.hid hz1; have HZ2 := Lib.hid hz2; clear hi hz0 hz1 hz2
    have e1 : ¬ (n : Int) % 2 = 1 := by omega
    have e1' : ((n : Int) % 2 == 1) = false := by simpa using e1
    have HEV := Lib.hid h2; clear h2 e1
    have hbd := run_build0
    have HOW0 : Hid ((w.alloc (.cells #[] 5)).ownsRow w.heap.size 5 1 (.slice (some ⟨w.heap.size, 0, none⟩) 0 0) 0 []) := Lib.hid (ownsRow_empty _ _ _ _ (Nat.le_refl _))
    have HF0 : Hid (Fr [] w (w.alloc (.cells #[] 5))) := Lib.hid ((Fr.refl [] w).alloc _)
    go_enter Tryd.func13, Tryd.ntmps13
    go_wp2_with fail
    clear hbd
    go_loopw [4, 5] (fun v4 v5 wr => ∃ i : Nat, i ≤ n ∧ v5 = .int .i64 i ∧ wr.ownsRow w.heap.size 5 1 v4 ((i + 1) / 2) (cel (rK s i)) ∧ Fr [] w wr ∧ ∀ j, j < i → ∃ x, dgt (s.getD j 0) = some x) (fun _ v5 _ => n - (intOf v5).toNat)
    case atStart => exact ⟨0, by omega, rfl, HOW0.out, HF0.out, fun j hj => by omega⟩
    case round =>
      clear HOW0 HF0
      obtain ⟨i, hi, rfl, hown, hfr, hgood⟩ := hrel
      by_cases hlt : i < n
      · have hx : ∀ W, (Instr.index 9 (.string ⟨s.toArray⟩) (.int .i64 (i : Int))).run Tryd.prog W = .ok (.int .u8 (s.getD i 0).toNat) W := fun W => run_indexS Tryd.underlying9 ⟨s.toArray⟩ .i64 (i : Int) i rfl _ (str_get s i (by omega)) W
        have hbad : dgt (s.getD i 0) = none → hexOK s = false := hexOK_bad (by omega)
        obtain ⟨c, hc⟩ : ∃ c, s.getD i 0 = c := ⟨_, rfl⟩
        rw [hc] at hx hbad
        have HC := Lib.hid hc; have HOW := Lib.hid hown; have HFR := Lib.hid hfr; have HGD := Lib.hid hgood; have HBAD := Lib.hid hbad
        clear hc hown hfr hgood hbad
        have hz := fnd_zero c
        have HZ := Lib.hid hz; clear hz
        go_wp2_with fail
        go_loopw [6, 7] (fun v6 v7 wi => ∃ k : Nat, k ≤ 16 ∧ v7 = .int .i64 k ∧ v6 = .int .i64 (fnd c k) ∧ wi.ownsRow w.heap.size 5 1 u4 ((i + 1) / 2) (cel (rK s i)) ∧ Fr [] w wi) (fun _ v7 _ => 16 - (intOf v7).toNat)
        case atStart => exact ⟨0, by omega, rfl, by rw [HZ.out], HOW.out, HFR.out⟩
        case round =>
          clear HOW HFR
          rename World => wi
          obtain ⟨k, hk, rfl, rfl, hown, hfr⟩ := hrel
          have HOW := Lib.hid hown; have HFR := Lib.hid hfr
          clear hown hfr
          by_cases hk16 : k < 16
          · have hk' : (k : Int) < 16 := by omega
            have hd : ∀ W, (Instr.index 9 (.string ⟨#[48, 49, 50, 51, 52, 53, 54, 55, 56, 57, 97, 98, 99, 100, 101, 102]⟩) (.int .i64 (k : Int))).run Tryd.prog W = .ok (.int .u8 (hexD k).toNat) W := fun W => run_indexS Tryd.underlying9 digs .i64 (k : Int) k rfl (hexD k) (digs_get k hk16) W
            by_cases hh : hexD k = c
            · have hfn := fnd_hit c k ((hexD_dgt c k hk16).1 hh)
              have hte : (((hexD k).toNat : Int) == (c.toNat : Int)) = true := by rw [hh]; simp
              have HFN := Lib.hid hfn
              clear hfn hh
              go_wp2_with fail
              go_quiet (fail)
              go_wp2_with fail
              go_roundw
              case rel => exact ⟨k + 1, by omega, by go_num, by rw [HFN.out], HOW.out, (HFR.out.trans (drewN_fr _ _))⟩
              case measure => simp [intOf]; omega
            · have hfn := fnd_miss c k (fun e => hh ((hexD_dgt c k hk16).2 e))
              have hne : ¬ ((hexD k).toNat : Int) = (c.toNat : Int) := fun e => hh (UInt8.toNat.inj (by omega))
              have hte : (((hexD k).toNat : Int) == (c.toNat : Int)) = false := by simpa using hne
              have HFN := Lib.hid hfn
              clear hfn hh hne
              go_wp2_with fail
              go_quiet (fail)
              go_wp2_with fail
              go_roundw
              case rel => exact ⟨k + 1, by omega, by go_num, by rw [HFN.out], HOW.out, (HFR.out.trans (drewN_fr _ _))⟩
              case measure => simp [intOf]; omega
          · obtain rfl : k = 16 := by omega
            obtain ⟨d, hd⟩ : ∃ d, dgt c = d := ⟨_, rfl⟩
            cases d with
            | none =>
              have hf := fnd_none c hd
              have hok := HBAD.out hd
              have HOK := Lib.hid hok; clear hok hd
              rw [hf]
              clear hf
              go_wp2_with fail
              go_ret2
              exact ⟨_, by rw [HOK.out]; rfl, HFR.out, .inl ⟨HOK.out, rfl⟩⟩
            | some x =>
              have hdv : dv c = x := by unfold dv; rw [hd]; rfl
              have hx16 : x < 16 := by rw [← hdv]; exact dv_lt c
              have hf := fnd_some c x hd hx16
              have hgd2 : ∀ j, j < i + 1 → ∃ x, dgt (s.getD j 0) = some x := fun j hj => by
                by_cases e : j = i
                · subst e; rw [HC.out]; exact ⟨x, hd⟩
                · exact HGD.out j (by omega)
              have HGD2 := Lib.hid hgd2
              clear hd hgd2
              rw [hf]
              clear hf
              have hx0 : (0 : Int) ≤ x := by omega
              have hx1 : (x : Int) < 16 := by omega
              have hsz := HFR.out.size
              rcases Nat.mod_two_eq_zero_or_one i with hp | hp
              · obtain ⟨h, hh⟩ : ∃ h, i = 2 * h := ⟨i / 2, by omega⟩
                have hte : ((i : Int) % 2 == 0) = true := by
                  have : (i : Int) % 2 = 0 := by omega
                  simpa using this
                have hown := HOW.out
                rw [show (i + 1) / 2 = h by omega] at hown
                have hlast : cel (rK s (i + 1)) = cel (rK s i) ++ [.int .u8 (16 * (x : Int))] := by
                  have := rK_even s h
                  rw [← hh, HC.out, hdv] at this
                  rw [this, cel_append]
                  have e : ((UInt8.ofNat (16 * x)).toNat : Int) = 16 * (x : Int) := by rw [UInt8.toNat_ofNat']; omega
                  simp only [cel, List.map_cons, List.map_nil, e]
                have hnc := new_cells wi [.int .u8 (16 * (x : Int))] 5
                have HLA := Lib.hid hlast; have HNC := Lib.hid hnc; have HOX := Lib.hid hown
                have hidx : (i + 1 + 1) / 2 = h + 1 := by omega
                have HIX := Lib.hid hidx
                have hh1 : h ≤ 35184372088832 := by omega
                clear hlast hnc hown hp hdv HOW hidx hh
                go_wp2_with (first
                  | (at_builtin; refine wpList_append_own _ rfl _ _ 23 rfl w.heap.size 5 i0 (.int .u8 0) 1 1 Tryd.underlying23 HI.out HZ0.out HZ1.out HZ2.out rfl (by decide) _ _ _ rfl (HOX.out.alloc _) ⟨wi.heap.size, 0, none⟩ 1 1 [.int .u8 (16 * (x : Int))] rfl rfl HNC.out (fun u hu => by simp at hu; subst hu; rfl) (by unfold maxLen; omega) (by omega) (by simp; omega) ?_)
                  | fail)
                intro v' w1 hown' hgrow _
                have HFa := Lib.hid ((HFR.out.alloc _).grew (HOX.out.alloc _) hgrow (Nat.le_refl _))
                have ho' : w1.ownsRow w.heap.size 5 1 v' ((i + 1 + 1) / 2) (cel (rK s (i + 1))) := by rw [HLA.out, HIX.out]; exact hown'
                have HOa := Lib.hid ho'
                clear hgrow hown' ho'
                go_wp2_with fail
                go_roundw
                case rel => exact ⟨i + 1, by omega, by go_num, HOa.out, HFa.out, HGD2.out⟩
                case measure => simp [intOf]; omega
              · obtain ⟨h, hh⟩ : ∃ h, i = 2 * h + 1 := ⟨i / 2, by omega⟩
                have hte : ((i : Int) % 2 == 0) = false := by
                  have : ¬ (i : Int) % 2 = 0 := by omega
                  simpa using this
                have hown := HOW.out
                rw [show (i + 1) / 2 = h + 1 by omega] at hown
                obtain ⟨g, cap, hv4, hBg, _, _, _⟩ := owns_range hown (by omega)
                subst hv4
                obtain ⟨hcl, hfz, _⟩ := own_cell hown h (by omega)
                have hmid := rK_mid s h
                rw [← hh] at hmid
                have hdm : ((UInt8.ofNat (16 * dv (s.getD (2 * h) 0))).toNat : Int) = 16 * (dv (s.getD (2 * h) 0) : Int) := by
                  have := dv_lt (s.getD (2 * h) 0)
                  rw [UInt8.toNat_ofNat']; omega
                have hcl2 : wi.cell? ⟨g, h, none⟩ = some (.int .u8 (16 * (dv (s.getD (2 * h) 0) : Int))) := by
                  rw [hcl, cel_get]
                  have hl : h < (rK s i).length := by rw [rK_length]; omega
                  have : (rK s i)[h]? = some ((rK s i).getD h 0) := by simp [hl]
                  rw [this, hmid]
                  simp only [Option.map_some, hdm]
                have hset : cel (rK s (i + 1)) = (cel (rK s i)).set h (.int .u8 (16 * (dv (s.getD (2 * h) 0) : Int) + x)) := by
                  have := rK_odd s h
                  rw [show 2 * h + 2 = i + 1 by omega, ← hh, HC.out, hdv] at this
                  have hd2 := dv_lt (s.getD (2 * h) 0)
                  have e : ((UInt8.ofNat (16 * dv (s.getD (2 * h) 0) + x)).toNat : Int) = 16 * (dv (s.getD (2 * h) 0) : Int) + x := by rw [UInt8.toNat_ofNat']; omega
                  rw [this]
                  simp only [cel, List.map_set, e]
                have hd2 := dv_lt (s.getD (2 * h) 0)
                generalize dv (s.getD (2 * h) 0) = y at *
                have hy1 : (y : Int) < 16 := by omega
                have ho' := own_set hown h (by omega) (.int .u8 (16 * (y : Int) + x))
                rw [← hset] at ho'
                have hF' : Fr [] w (wi.setCell ⟨g, h, none⟩ (.int .u8 (16 * (y : Int) + x))) := HFR.out.setCell (.inr hBg) _
                have ho2 : (wi.setCell ⟨g, h, none⟩ (.int .u8 (16 * (y : Int) + x))).ownsRow w.heap.size 5 1 (.slice (some ⟨g, 0, none⟩) (h + 1) cap) ((i + 1 + 1) / 2) (cel (rK s (i + 1))) := by rw [show (i + 1 + 1) / 2 = h + 1 by omega]; exact ho'
                have HO2 := Lib.hid ho2; have HF2 := Lib.hid hF'
                have hq : (i : Int) / 2 = h := by omega
                clear hh hp hown hBg hcl hmid hdm hset ho' hF' ho2 HOW hdv
                go_wp2_with fail
                go_roundw
                case rel => exact ⟨i + 1, by omega, by go_num, HO2.out, HF2.out, HGD2.out⟩
                case measure => simp [intOf]; omega
      · obtain rfl : i = n := by omega
        have hok : hexOK s = true := hexOK_good (by rw [hn]; exact HEV.out) (fun j hj => hgood j (by omega))
        have hu : rK s i = unhexV s := by
          have := HEV.out
          have := rK_full s (i / 2) (by omega)
          rwa [show 2 * (i / 2) = i by omega] at this
        rw [hu, show (i + 1) / 2 = s.length / 2 by have := HEV.out; omega] at hown
        have HO := Lib.hid hown; have HFR := Lib.hid hfr; have HOK := Lib.hid hok
        clear hown hfr hok hu hgood
        go_wp2_with fail
        go_ret2
        exact ⟨_, by rw [HOK.out]; rfl, HFR.out, .inr ⟨HOK.out, HO.out⟩⟩
  · have e1 : (n : Int) % 2 = 1 := by omega
    have hbad := hexOK_odd (s := s) (by rw [hn]; exact h2)
    have HB := Lib.hid hbad; clear hbad h2
    go_enter Tryd.func13, Tryd.ntmps13
    go_wp2_with fail
    go_ret2
    exact ⟨_, by rw [HB.out]; rfl, Fr.refl _ _, .inl ⟨HB.out, rfl⟩⟩
end Go.Proofs.YthegllpmefilkaaDoor
