/-
  Decode: the code's.
-/
import Derived.Test.YtdbhppfpalpfmaaLabCd4
import Derived.Test.YtdbhppfpalpfmaaLabY
namespace Go.Proofs.Ytdbhppfpalpfmaa
open Go.RowKit Go.MapKept
def decT (n : Int) (R1 R2 : Int × List Int × List Int) : Int × List Int × List Int × Int :=
  bif R1.1 == 0 then (bif R2.1 == 0 then (0, R1.2.1, R2.2.1, n - (R2.2.2.length : Int)) else (R2.1, [], [], 0)) else (R1.1, [], [], 0)
def decB (bs : List Int) : Int × List Int × List Int × Int := decT bs.length (rdS bs) (rdS (rdS bs).2.2)
def DecR (w : World) (e : Ending) (w' : World) (D : Int × List Int × List Int × Int) : Prop := ∃ a1 k1 a2 k2, e = .returned (.tuple #[.agg #[.slice a1 D.2.1.length k1, .slice a2 D.2.2.1.length k2], .int .i64 D.2.2.2, .int .i64 D.1]) ∧ RdI w' a1 k1 D.2.1 ∧ RdI w' a2 k2 D.2.2.1 ∧ Fr [] w w'
set_option maxRecDepth 100000 in
set_option maxHeartbeats 4000000 in
theorem dec_calls (w : World) (ad : Option Addr) (cap : Nat) (bs : List Int) (h : RdB w ad cap bs) :
    Calls Try.prog 42 #[.slice ad bs.length cap] w fun e w' => DecR w e w' (decB bs) := by
  have hF : Fr [] w (w.alloc (.cells #[.slice none 0 0, .slice none 0 0] 26)) := (Fr.refl [] w).alloc _
  have hbg := h.big
  have HC1 := Lib.hid (cutSet_calls _ ad cap bs (h.keep hF))
  have HCUT := Lib.hid (fun w' a k r (h : RdB w' a k r) => cutSet_calls w' a k r h)
  have HBX : Hid (∀ w', Fr [] (w.alloc (.cells #[.slice none 0 0, .slice none 0 0] 26)) w' → w'.heap[w.heap.size]? = some (.cells #[.slice none 0 0, .slice none 0 0] 26 (0, 0))) := Lib.hid (fun w' hf => hf.keep (heap_alloc_last w _) (by simp))
  have HF := Lib.hid hF
  obtain ⟨n, hn⟩ : ∃ n, bs.length = n := ⟨_, rfl⟩
  obtain ⟨R, hR⟩ : ∃ R, rdS bs = R := ⟨_, rfl⟩
  obtain ⟨E1, S1, R1⟩ := R
  obtain ⟨R', hR'⟩ : ∃ R', rdS R1 = R' := ⟨_, rfl⟩
  obtain ⟨E2, S2, R2⟩ := R'
  have HD0 : Hid (decB bs = decT n (E1, S1, R1) (E2, S2, R2)) := Lib.hid (by unfold decB; rw [hR, hn, hR'])
  rw [hR] at HC1
  rw [hn] at HC1 hbg ⊢
  have HR2 := Lib.hid hR'
  clear hR hR' hn hF h
  obtain ⟨D, hD⟩ : ∃ D, decB bs = D := ⟨_, rfl⟩
  rw [hD] at HD0 ⊢
  clear hD
  go_enter Try.func42, Try.ntmps42
  go_wp2_with fail
  refine HC1.out.mono ?_
  rintro e w1 ⟨a1, k1, a2, k2, rfl, hi1, hr1, hf1⟩
  have HI1 := Lib.hid hi1; have HR1 := Lib.hid hr1; have HF1 := Lib.hid hf1
  have hle1 := hr1.big
  clear hi1 hr1 hf1 HC1
  by_cases e1 : E1 = 0
  · subst e1
    simp only at HI1 HR1 hle1 ⊢
    have hcut := HCUT.out w1 a2 k2 R1 HR1.out
    rw [HR2.out] at hcut
    go_wp2_with fail
    refine hcut.mono ?_
    rintro e w2 ⟨b1, j1, b2, j2, rfl, hi2, hr2, hf2⟩
    simp only at hi2 hr2 ⊢
    have hle2 := hr2.big
    have HI1' := Lib.hid (HI1.out.keep hf2); have HI2 := Lib.hid hi2; have HF2 := Lib.hid (HF1.out.trans hf2)
    clear hi2 hr2 hf2 HI1 HF1 HR1 HCUT HR2 hcut
    have HI1 := HI1'
    clear HI1'
    by_cases e2 : E2 = 0
    · subst e2
      have HD : Hid (D = (0, S1, S2, (n : Int) - (R2.length : Int))) := Lib.hid HD0.out
      clear HD0
      have hb := HBX.out w2 HF2.out
      have hc0 := box_cell hb 0
      have hc1 := box_cell hb 1
      have hr0 := box_free hb 0
      have hr1 := box_free hb 1
      simp only [List.getElem?_toArray, List.getElem?_cons_zero, List.getElem?_cons_succ] at hc0 hc1
      have HB := Lib.hid hb
      clear hb
      have HQ := Lib.hid (HF.out.trans HF2.out)
      clear HBX HF HF2
      go_wp2_with fail
      have hB := box_store2 (u0 := .slice a1 S1.length k1) (u1 := .slice b1 S2.length j1) HB.out
      have hfB : Fr [w.heap.size] w2 ((w2.setCell ⟨w.heap.size, 0, none⟩ (.slice a1 S1.length k1)).setCell ⟨w.heap.size, 1, none⟩ (.slice b1 S2.length j1)) := ((Fr.refl _ _).setCell (.inl (by simp)) _).setCell (.inl (by simp)) _
      have hd0 := box_cell hB 0
      have hd1 := box_cell hB 1
      simp only [List.getElem?_toArray, List.getElem?_cons_zero, List.getElem?_cons_succ] at hd0 hd1
      refine bodyPost_ret (v := .tuple #[.agg #[.slice a1 S1.length k1, .slice b1 S2.length j1], .int .i64 ((n : Int) - (R2.length : Int)), .int .i64 0]) ?_ rfl ⟨a1, k1, b1, j1, by rw [HD.out], by rw [HD.out]; exact HI1.out.keepB hfB HB.out (noInt_two _ _ _ _ _ _), by rw [HD.out]; exact HI2.out.keepB hfB HB.out (noInt_two _ _ _ _ _ _), HQ.out.trans_new hfB (by intro x hx; simp at hx; omega)⟩
      generalize ((w2.setCell ⟨w.heap.size, 0, none⟩ (.slice a1 S1.length k1)).setCell ⟨w.heap.size, 1, none⟩ (.slice b1 S2.length j1)) = wf at *
      simp [results, Try.f42, go_sem, hd0, hd1]
    · have d2 : (E2 == 0) = false := by simpa using e2
      have HD : Hid (D = bif E2 == 0 then (0, S1, S2, (n : Int) - (R2.length : Int)) else (E2, [], [], 0)) := Lib.hid HD0.out
      clear HD0
      have hb := HBX.out w2 HF2.out
      have hc0 := box_cell hb 0
      have hc1 := box_cell hb 1
      have hr0 := box_free hb 0
      have hr1 := box_free hb 1
      simp only [List.getElem?_toArray, List.getElem?_cons_zero, List.getElem?_cons_succ] at hc0 hc1
      have HB := Lib.hid hb
      clear hb
      have HQ := Lib.hid (HF.out.trans HF2.out)
      clear HBX HF HF2 HI1 HI2
      go_wp2_with fail
      have hB := box_store2 (u0 := .slice none 0 0) (u1 := .slice none 0 0) HB.out
      have hfB : Fr [w.heap.size] w2 ((w2.setCell ⟨w.heap.size, 0, none⟩ (.slice none 0 0)).setCell ⟨w.heap.size, 1, none⟩ (.slice none 0 0)) := ((Fr.refl _ _).setCell (.inl (by simp)) _).setCell (.inl (by simp)) _
      have hd0 := box_cell hB 0
      have hd1 := box_cell hB 1
      simp only [List.getElem?_toArray, List.getElem?_cons_zero, List.getElem?_cons_succ] at hd0 hd1
      refine bodyPost_ret (v := .tuple #[.agg #[.slice none 0 0, .slice none 0 0], .int .i64 0, .int .i64 E2]) ?_ rfl ⟨none, 0, none, 0, by rw [HD.out, d2]; rfl, by rw [HD.out, d2]; exact nil_rdI _, by rw [HD.out, d2]; exact nil_rdI _, HQ.out.trans_new hfB (by intro x hx; simp at hx; omega)⟩
      generalize ((w2.setCell ⟨w.heap.size, 0, none⟩ (.slice none 0 0)).setCell ⟨w.heap.size, 1, none⟩ (.slice none 0 0)) = wf at *
      simp [results, Try.f42, go_sem, hd0, hd1]
  · have d1 : (E1 == 0) = false := by simpa using e1
    have HD : Hid (D = bif E1 == 0 then (bif E2 == 0 then (0, S1, S2, (n : Int) - (R2.length : Int)) else (E2, [], [], 0)) else (E1, [], [], 0)) := Lib.hid HD0.out
    clear HD0
    simp only at HI1 HR1 hle1 ⊢
    have hb := HBX.out w1 HF1.out
    have hc0 := box_cell hb 0
    have hc1 := box_cell hb 1
    have hr0 := box_free hb 0
    have hr1 := box_free hb 1
    simp only [List.getElem?_toArray, List.getElem?_cons_zero, List.getElem?_cons_succ] at hc0 hc1
    have HB := Lib.hid hb
    clear hb
    have HQ := Lib.hid (HF.out.trans HF1.out)
    clear HBX HF HF1 HR1 HCUT HI1
    go_wp2_with fail
    have hB := box_store2 (u0 := .slice none 0 0) (u1 := .slice none 0 0) HB.out
    have hfB : Fr [w.heap.size] w1 ((w1.setCell ⟨w.heap.size, 0, none⟩ (.slice none 0 0)).setCell ⟨w.heap.size, 1, none⟩ (.slice none 0 0)) := ((Fr.refl _ _).setCell (.inl (by simp)) _).setCell (.inl (by simp)) _
    have hd0 := box_cell hB 0
    have hd1 := box_cell hB 1
    simp only [List.getElem?_toArray, List.getElem?_cons_zero, List.getElem?_cons_succ] at hd0 hd1
    refine bodyPost_ret (v := .tuple #[.agg #[.slice none 0 0, .slice none 0 0], .int .i64 0, .int .i64 E1]) ?_ rfl ⟨none, 0, none, 0, by rw [HD.out, d1]; rfl, by rw [HD.out, d1]; exact nil_rdI _, by rw [HD.out, d1]; exact nil_rdI _, HQ.out.trans_new hfB (by intro x hx; simp at hx; omega)⟩
    generalize ((w1.setCell ⟨w.heap.size, 0, none⟩ (.slice none 0 0)).setCell ⟨w.heap.size, 1, none⟩ (.slice none 0 0)) = wf at *
    simp [results, Try.f42, go_sem, hd0, hd1]
end Go.Proofs.Ytdbhppfpalpfmaa
