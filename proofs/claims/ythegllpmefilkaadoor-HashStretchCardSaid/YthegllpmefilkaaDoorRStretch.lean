/-
  The document's Stretch.
-/
import Derived.Test.YthegllpmefilkaaDoorRConst
import Derived.Test.YthegllpmefilkaaDoorRHex
import Derived.Test.YthegllpmefilkaaDoorStretch
namespace Go.Proofs.YthegllpmefilkaaDoor
open Go.RowKit Go.MapKept
set_option maxRecDepth 100000 in
set_option maxHeartbeats 4000000 in
theorem rstretch_calls (w : World) (salt pass : List UInt8) (t : Int) (T : Nat) (hTT : T = (min t 1000).toNat) (ht : -9223372036854775808 ≤ t ∧ t ≤ 9223372036854775807) (hl : salt.length + pass.length ≤ 1073741000) :
    Calls Tryd.prog 16 #[.string ⟨salt.toArray⟩, .string ⟨pass.toArray⟩, .int .i64 t] w fun e w' => e = .returned (.string ⟨(hexB (stB salt pass T)).toArray⟩) ∧ Fr [] w w' := by
  obtain ⟨ns, hns⟩ : ∃ n, salt.length = n := ⟨_, rfl⟩
  obtain ⟨np, hnp⟩ : ∃ n, pass.length = n := ⟨_, rfl⟩
  have HNS := Lib.hid hns; have HNP := Lib.hid hnp
  rw [hns, hnp] at hl
  obtain ⟨m1, hm1⟩ : ∃ m, salt ++ [0] = m := ⟨_, rfl⟩
  obtain ⟨m0, hm0⟩ : ∃ m, m1 ++ pass = m := ⟨_, rfl⟩
  have l1 : m1.length = ns + 1 := by rw [← hm1]; simp [hns]
  have l0 : m0.length = ns + 1 + np := by rw [← hm0, List.length_append, l1, hnp]
  have hst0 : stB salt pass 0 = shaB m0 := by rw [← hm0, ← hm1]; rfl
  have hst : ∀ k, stB salt pass (k + 1) = shaB (stB salt pass k ++ salt ++ pass) := fun k => by rw [List.append_assoc]; rfl
  have HM1 := Lib.hid hm1; have HM0 := Lib.hid hm0
  have L1 := Lib.hid l1; have L0 := Lib.hid l0
  have HS0 := Lib.hid hst0; have HST := Lib.hid hst
  have HSL : Hid (∀ k, (stB salt pass k).length = 32) := Lib.hid (stB_length salt pass)
  generalize stB salt pass = st at *
  clear hns hnp hm1 hm0 l1 l0 hst0 hst
  obtain ⟨tt, htt⟩ : ∃ tt, (if (1000 : Int) < t then (1000 : Int) else t) = tt := ⟨_, rfl⟩
  have hT1 : (T : Int) = tt ∨ (T = 0 ∧ tt ≤ 0) := by rw [hTT, ← htt]; split <;> omega
  have hT2 : T ≤ 1000 := by rw [hTT]; omega
  have HT1 := Lib.hid hT1; clear hT1 hTT
  go_enter Tryd.func16, Tryd.ntmps16
  go_wp2_with fail
  refine (const_calls w).mono ?_
  rintro e w1 ⟨gk, gh, rfl, hc, hf1⟩
  have hca := hc.keep ((Fr.refl [] w1).alloc (.cells #[.slice (some ⟨gk, 0, none⟩) 64 64, .slice (some ⟨gh, 0, none⟩) 8 8] 45))
  have hfa := hf1.alloc (.cells #[.slice (some ⟨gk, 0, none⟩) 64 64, .slice (some ⟨gh, 0, none⟩) 8 8] 45)
  have hbx := heap_alloc_last w1 (.cells #[.slice (some ⟨gk, 0, none⟩) 64 64, .slice (some ⟨gh, 0, none⟩) 8 8] 45)
  obtain ⟨wa, hwa⟩ : ∃ wa, w1.alloc (.cells #[.slice (some ⟨gk, 0, none⟩) 64 64, .slice (some ⟨gh, 0, none⟩) 8 8] 45) = wa := ⟨_, rfl⟩
  rw [hwa] at hca hfa hbx
  have HBX : Hid (∀ w', Fr [] wa w' → w'.cell? ⟨w1.heap.size, 0, none⟩ = some (.slice (some ⟨gk, 0, none⟩) 64 64) ∧ w'.cell? ⟨w1.heap.size, 1, none⟩ = some (.slice (some ⟨gh, 0, none⟩) 8 8)) := Lib.hid (fun w' hf => by
    have hb := hf.keep hbx (by simp)
    exact ⟨by rw [box_cell hb]; rfl, by rw [box_cell hb]; rfl⟩)
  have HC := Lib.hid hca; have HFA := Lib.hid hfa; have HWA := Lib.hid hwa
  obtain ⟨hx1, hx2⟩ := HBX.out wa (Fr.refl _ _)
  rw [← hwa] at hx1 hx2
  clear hc hf1 hca hfa hbx hwa
  go_wp2_with (first
    | ((with_reducible_and_instances refine id (α := wpList _ _ _ (⟨some 13, .binOp _ _ _ _ _, _, _, _, _⟩ :: _) _ _) ?_); refine wL_cat rfl _ _ _ _ rfl salt [0] rfl rfl (by rw [HNS.out]; simp; omega) m1 HM1.out ?_)
    | ((with_reducible_and_instances refine id (α := wpList _ _ _ (⟨some 15, .binOp _ _ _ _ _, _, _, _, _⟩ :: _) _ _) ?_); refine wL_cat rfl _ _ _ _ rfl m1 pass rfl rfl (by rw [L1.out, HNP.out]; omega) m0 HM0.out ?_)
    | fail)
  rw [HWA.out]
  refine (sum_calls wa gk gh HC.out m0 (by rw [L0.out]; omega)).mono ?_
  rintro e w2 ⟨v, rfl, hown, hf2⟩
  have hown0 : w2.ownsRow w.heap.size 5 1 v 32 (cel (st 0)) := by rw [← HSL.out 0, HS0.out]; exact ownsRow_lower hown HFA.out.size
  have HOW := Lib.hid hown0; have HF2 := Lib.hid hf2
  clear hown hown0 hf2 hx1 hx2 HWA
  go_wp2_with fail
  go_loopw [8, 9] (fun v8 v9 wr => ∃ k : Nat, k ≤ T ∧ v9 = .int .i64 k ∧ Fr [] wa wr ∧ wr.ownsRow w.heap.size 5 1 v8 32 (cel (st k))) (fun _ v9 _ => T - (intOf v9).toNat)
  case atStart => exact ⟨0, by omega, rfl, HF2.out, HOW.out⟩
  case round =>
    clear HF2 HOW
    obtain ⟨k, hk, rfl, hfr, hown⟩ := hrel
    by_cases hlt : k < T
    · have hlt' : (k : Int) < tt := by have := HT1.out; omega
      obtain ⟨n1, hn1⟩ : ∃ m, st k ++ salt = m := ⟨_, rfl⟩
      obtain ⟨n2, hn2⟩ : ∃ m, n1 ++ pass = m := ⟨_, rfl⟩
      have ln1 : n1.length = 32 + ns := by rw [← hn1, List.length_append, HSL.out, HNS.out]
      have ln2 : n2.length = 32 + ns + np := by rw [← hn2, List.length_append, ln1, HNP.out]
      have hnx : st (k + 1) = shaB n2 := by rw [HST.out, hn1, hn2]
      have hsl : (st k).length + salt.length ≤ 9223372036854775807 := by rw [HSL.out, HNS.out]; omega
      obtain ⟨sk, hsk⟩ : ∃ s, st k = s := ⟨_, rfl⟩
      rw [hsk] at hown hn1 hsl
      obtain ⟨hx1, hx2⟩ := HBX.out wr hfr
      have HN1 := Lib.hid hn1; have HN2 := Lib.hid hn2; have LN1 := Lib.hid ln1; have LN2 := Lib.hid ln2; have HNX := Lib.hid hnx; have HSS := Lib.hid hsl
      have HFR := Lib.hid hfr; have HOW := Lib.hid hown
      clear hn1 hn2 ln1 ln2 hnx hsl hsk hfr hown
      go_wp2_with (first
        | ((with_reducible_and_instances refine id (α := wpList _ _ _ (⟨some 25, .convert _ _ _, _, _, _, _⟩ :: _) _ _) ?_); refine wL_ownString rfl 23 9 5 (.tmp 24) rfl Tryd.underlying23 Tryd.underlying5 Tryd.underlying9 _ rfl _ _ _ _ HOW.out ?_)
        | ((with_reducible_and_instances refine id (α := wpList _ _ _ (⟨some 27, .binOp _ _ _ _ _, _, _, _, _⟩ :: _) _ _) ?_); refine wL_cat rfl _ _ _ _ rfl sk salt rfl rfl HSS.out n1 HN1.out ?_)
        | ((with_reducible_and_instances refine id (α := wpList _ _ _ (⟨some 29, .binOp _ _ _ _ _, _, _, _, _⟩ :: _) _ _) ?_); refine wL_cat rfl _ _ _ _ rfl n1 pass rfl rfl (by rw [LN1.out, HNP.out]; omega) n2 HN2.out ?_)
        | fail)
      refine (sum_calls wr gk gh (HC.out.keep HFR.out) n2 (by rw [LN2.out]; omega)).mono ?_
      rintro e w4 ⟨v', rfl, hown, hf4⟩
      have hown' : w4.ownsRow w.heap.size 5 1 v' 32 (cel (st (k + 1))) := by rw [← HSL.out (k + 1), HNX.out]; exact ownsRow_lower hown (HFA.out.trans HFR.out).size
      have HOW' := Lib.hid hown'; have HF4 := Lib.hid (HFR.out.trans hf4)
      clear hown hown' hf4 HOW hx1 hx2
      go_wp2_with fail
      go_roundw
      case rel => exact ⟨k + 1, by omega, by go_num, HF4.out, HOW'.out⟩
      case measure => simp [intOf]; omega
    · obtain rfl : k = T := by omega
      have hlt' : ¬ (k : Int) < tt := by have := HT1.out; omega
      obtain ⟨ad, cap, hv, hrd⟩ := own_reads hown (by rw [HSL.out]; decide)
      have hx := rhex_calls wr ad cap (st k) hrd (by rw [HSL.out]; decide)
      rw [HSL.out] at hv hx
      subst hv
      have HX := Lib.hid hx; have HFR := Lib.hid (HFA.out.trans hfr)
      clear hfr hown hrd hx
      go_wp2_with fail
      refine HX.out.mono ?_
      rintro e w6 ⟨rfl, hf6⟩
      have HF6 := Lib.hid (HFR.out.trans hf6)
      clear hf6 HX
      go_wp2_with fail
      go_ret
      exact ⟨rfl, HF6.out⟩
end Go.Proofs.YthegllpmefilkaaDoor
