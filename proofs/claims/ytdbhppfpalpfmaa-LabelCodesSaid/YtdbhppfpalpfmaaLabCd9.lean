/-
  The document's Decode.
-/
import Derived.Test.YtdbhppfpalpfmaaLabCd8
import Derived.Test.YtdbhppfpalpfmaaLabCd5
namespace Go.Proofs.Ytdbhppfpalpfmaa
open Go.RowKit Go.MapKept
theorem box_store4 {w : World} {B : Nat} {T : TypeId} {v0 v1 v2 v3 u0 u1 u2 u3 : Value} (hb : w.heap[B]? = some (.cells #[v0, v1, v2, v3] T (0, 0))) : ((((w.setCell ⟨B, 0, none⟩ u0).setCell ⟨B, 1, none⟩ u1).setCell ⟨B, 2, none⟩ u2).setCell ⟨B, 3, none⟩ u3).heap[B]? = some (.cells #[u0, u1, u2, u3] T (0, 0)) := by
  have h1 := box_set hb 0 u0
  have h2 := box_set h1 1 u1
  have h3 := box_set h2 2 u2
  have h4 := box_set h3 3 u3
  simpa using h4
theorem RdI.keepNe {w w' : World} {B : Nat} {ad : Option Addr} {cap : Nat} {zs : List Int} (h : RdI w ad cap zs) (hn : ∀ b off, ad = some ⟨b, off, none⟩ → 0 < zs.length → b ≠ B) (hf : Fr [B] w w') : RdI w' ad cap zs :=
  ⟨h.le, h.cb, h.big, h.nil, fun a ha hl => by
    obtain ⟨b, off, rfl, hc⟩ := h.at_ a ha hl
    refine ⟨b, off, rfl, fun j hj => ?_⟩
    have hcj := hc j hj
    rw [World.cell?_of_block (w := w) (hf.block b (World.block_lt_of_cell? _ _ hcj) (by simpa using hn b off ha hl))]
    exact hcj⟩
theorem rdS_used {bs S R : List Int} (h : rdS bs = (0, S, R)) : ∃ U : Nat, usedB bs = (U : Int) ∧ U ≤ bs.length ∧ R = bs.drop U ∧ 0 < bs.length ∧ R.length = bs.length - U := by
  cases bs with
  | nil => cases h
  | cons c r =>
    have h' := h
    rw [rdS] at h'
    cases hb : decide (16 < c) with
    | true => rw [hb] at h'; cases h'
    | false =>
      rw [hb] at h'
      obtain ⟨e, hl⟩ := rdN_rest _ _ _ r h'
      have hR : R.length = r.length - 4 * c.toNat := by rw [e, List.length_drop]
      refine ⟨4 * c.toNat + 1, ?_, by simp; omega, by rw [e]; simp, by simp, by simp; omega⟩
      unfold usedB
      rw [h]
      simp only [beq_self_eq_true, cond_true, List.length_cons]
      omega
def DecR2 (w : World) (e : Ending) (w' : World) (D : Int × List Int × List Int × Int) : Prop := ∃ a1 k1 a2 k2, e = .returned (.agg #[.slice a1 D.2.1.length k1, .slice a2 D.2.2.1.length k2, .int .i64 D.2.2.2, .int .i64 D.1]) ∧ RdI w' a1 k1 D.2.1 ∧ RdI w' a2 k2 D.2.2.1 ∧ Fr [] w w'
set_option maxRecDepth 100000 in
set_option maxHeartbeats 4000000 in
theorem rdec_calls (w : World) (ad : Option Addr) (cap : Nat) (bs : List Int) (h : RdB w ad cap bs) :
    Calls Try.prog 43 #[.slice ad bs.length cap] w fun e w' => DecR2 w e w' (decB bs) := by
  have hF : Fr [] w (w.alloc (.cells #[.slice none 0 0, .slice none 0 0, .int .i64 0, .int .i64 0] 54)) := (Fr.refl [] w).alloc _
  have hbg := h.big
  have hle := h.le
  have HC1 := Lib.hid (read_calls _ ad cap bs (h.keep hF))
  have HRD := Lib.hid (fun w' (hf : Fr [] w w') => h.keep hf)
  have HBX : Hid (∀ w', Fr [] (w.alloc (.cells #[.slice none 0 0, .slice none 0 0, .int .i64 0, .int .i64 0] 54)) w' → w'.heap[w.heap.size]? = some (.cells #[.slice none 0 0, .slice none 0 0, .int .i64 0, .int .i64 0] 54 (0, 0))) := Lib.hid (fun w' hf => hf.keep (heap_alloc_last w _) (by simp))
  have HF := Lib.hid hF
  obtain ⟨n, hn⟩ : ∃ n, bs.length = n := ⟨_, rfl⟩
  obtain ⟨R, hR⟩ : ∃ R, rdS bs = R := ⟨_, rfl⟩
  obtain ⟨E1, S1, R1⟩ := R
  obtain ⟨R', hR'⟩ : ∃ R', rdS R1 = R' := ⟨_, rfl⟩
  obtain ⟨E2, S2, R2⟩ := R'
  have HD0 : Hid (decB bs = decT n (E1, S1, R1) (E2, S2, R2)) := Lib.hid (by unfold decB; rw [hR, hn, hR'])
  have HR1 := Lib.hid hR; have HR2 := Lib.hid hR'; have HN := Lib.hid hn
  rw [hn] at HC1 hbg hle ⊢
  obtain ⟨D, hD⟩ : ∃ D, decB bs = D := ⟨_, rfl⟩
  rw [hD] at HD0 ⊢
  clear hD hR hR' hn hF h
  go_enter Try.func43, Try.ntmps43
  go_wp2_with fail
  refine HC1.out.mono ?_
  rintro e w1 ⟨a1, k1, rfl, hi1, hl1, hf1⟩
  rw [HR1.out] at hi1 hl1 ⊢
  simp only at hi1 hl1 ⊢
  have HI1 := Lib.hid hi1; have HF1 := Lib.hid hf1
  have HN1 : Hid (∀ b off, a1 = some ⟨b, off, none⟩ → 0 < S1.length → b ≠ w.heap.size) := Lib.hid (fun b off e hl => by have := hl1 b off e hl; simp at this; omega)
  clear hi1 hl1 hf1 HC1
  by_cases e1 : E1 = 0
  · subst e1
    obtain ⟨U, hU, hUn, hdrop, hpos, hRl⟩ := rdS_used HR1.out
    rw [HN.out] at hUn hpos hRl
    rw [hU]
    have HUV : Hid (E2 = 0 → ∃ V : Nat, usedB R1 = (V : Int) ∧ D = (0, S1, S2, (U : Int) + (V : Int)) ∧ U + V ≤ n) := Lib.hid (fun e2 => by
      obtain ⟨V, hV, hVn, _, _, hR2l⟩ := rdS_used (by rw [← e2]; exact HR2.out : rdS R1 = (0, S2, R2))
      refine ⟨V, hV, ?_, by omega⟩
      rw [HD0.out, e2]
      show (0, S1, S2, (n : Int) - (R2.length : Int)) = _
      rw [show (n : Int) - (R2.length : Int) = (U : Int) + (V : Int) by omega])
    obtain ⟨b, off, rfl, _, _⟩ := (HRD.out w (Fr.refl _ _)).cellAt (k := 0) (by rw [HN.out]; exact hpos)
    have HQ : Hid (∀ w', Fr [] w w' → RdB w' (some ⟨b, off + U, none⟩) (cap - U) R1) := Lib.hid (fun w' hf => by rw [hdrop]; exact (HRD.out w' hf).dropAt (by rw [HN.out]; exact hUn))
    have hR1l : R1.length = n - U := hRl
    have i1 : (0 : Int) ≤ (U : Int) := by omega
    have i2 : (U : Int) ≤ (n : Int) := by omega
    have i3 : (U : Int) ≤ (cap : Int) := by omega
    clear hU hdrop hRl HR1
    by_cases hcU : cap = U
    · have e0 : R1 = [] := List.eq_nil_of_length_eq_zero (by omega)
      have HC2 : Hid (∀ w', Fr [] (w.alloc (.cells #[.slice none 0 0, .slice none 0 0, .int .i64 0, .int .i64 0] 54)) w' → Calls Try.prog 65 #[.slice (some ⟨b, off, none⟩) (n - U) 0] w' fun e w'' => ReadR w' e w'' R1) := Lib.hid (fun w' hf => by
        rw [← hR1l, e0]
        exact read_calls w' _ _ [] (RdB.empty _ _ (by omega)))
      clear hR1l HQ HRD e0
      go_wp2_with fail
      refine (HC2.out w1 HF1.out).mono ?_
      rintro e w2 ⟨b1, j1, rfl, hi2, hl2, hf2⟩
      rw [HR2.out] at hi2 hl2 ⊢
      simp only at hi2 hl2 ⊢
      have HI1' := Lib.hid (HI1.out.keep hf2); have HI2 := Lib.hid hi2; have HFZ := Lib.hid (HF1.out.trans hf2)
      have HN2 : Hid (∀ b off, b1 = some ⟨b, off, none⟩ → 0 < S2.length → b ≠ w.heap.size) := Lib.hid (fun b off e hl => by have := hl2 b off e hl; have := HF1.out.size; simp at this; omega)
      clear hi2 hl2 hf2 HI1 HF1 HC2
      have HI1 := HI1'
      clear HI1'
      by_cases e2 : E2 = 0
      · subst e2
        obtain ⟨V, hV, hD, hUV⟩ := HUV.out rfl
        rw [hV]
        have HD := Lib.hid hD
        have w6 : wrap64 ((U : Int) + (V : Int)) = (U : Int) + (V : Int) := by simp only [wrap64]; omega
        clear hV hD HUV HD0
        have hb := HBX.out w2 HFZ.out
        have hc0 := box_cell hb 0
        have hc1 := box_cell hb 1
        have hc2 := box_cell hb 2
        have hc3 := box_cell hb 3
        have hr0 := box_free hb 0
        have hr1 := box_free hb 1
        have hr2 := box_free hb 2
        have hr3 := box_free hb 3
        simp only [List.getElem?_toArray, List.getElem?_cons_zero, List.getElem?_cons_succ] at hc0 hc1 hc2 hc3
        have HB := Lib.hid hb
        clear hb HBX
        go_wp2_with fail
        have hB := box_store4 (u0 := .slice a1 S1.length k1) (u1 := .slice b1 S2.length j1) (u2 := .int .i64 ((U : Int) + (V : Int))) (u3 := .int .i64 0) HB.out
        have hfB : Fr [w.heap.size] w2 ((((w2.setCell ⟨w.heap.size, 0, none⟩ (.slice a1 S1.length k1)).setCell ⟨w.heap.size, 1, none⟩ (.slice b1 S2.length j1)).setCell ⟨w.heap.size, 2, none⟩ (.int .i64 ((U : Int) + (V : Int)))).setCell ⟨w.heap.size, 3, none⟩ (.int .i64 0)) := ((((Fr.refl _ _).setCell (.inl (by simp)) _).setCell (.inl (by simp)) _).setCell (.inl (by simp)) _).setCell (.inl (by simp)) _
        have hd0 := box_cell hB 0
        have hd1 := box_cell hB 1
        have hd2 := box_cell hB 2
        have hd3 := box_cell hB 3
        simp only [List.getElem?_toArray, List.getElem?_cons_zero, List.getElem?_cons_succ] at hd0 hd1 hd2 hd3
        refine bodyPost_ret (v := .agg #[.slice a1 S1.length k1, .slice b1 S2.length j1, .int .i64 ((U : Int) + (V : Int)), .int .i64 0]) ?_ rfl ⟨a1, k1, b1, j1, by rw [HD.out], by rw [HD.out]; exact HI1.out.keepNe HN1.out hfB, by rw [HD.out]; exact HI2.out.keepNe HN2.out hfB, (HF.out.trans HFZ.out).trans_new hfB (by intro x hx; simp at hx; omega)⟩
        generalize ((((w2.setCell ⟨w.heap.size, 0, none⟩ (.slice a1 S1.length k1)).setCell ⟨w.heap.size, 1, none⟩ (.slice b1 S2.length j1)).setCell ⟨w.heap.size, 2, none⟩ (.int .i64 ((U : Int) + (V : Int)))).setCell ⟨w.heap.size, 3, none⟩ (.int .i64 0)) = wf at *
        simp [results, Try.f43, go_sem, hd0, hd1, hd2, hd3]
      · have d2 : (E2 == 0) = false := by simpa using e2
        have HD : Hid (D = bif E2 == 0 then (0, S1, S2, (n : Int) - (R2.length : Int)) else (E2, [], [], 0)) := Lib.hid HD0.out
        clear HD0 HUV
        have hb := HBX.out w2 HFZ.out
        have hc0 := box_cell hb 0
        have hc1 := box_cell hb 1
        have hc2 := box_cell hb 2
        have hc3 := box_cell hb 3
        have hr0 := box_free hb 0
        have hr1 := box_free hb 1
        have hr2 := box_free hb 2
        have hr3 := box_free hb 3
        simp only [List.getElem?_toArray, List.getElem?_cons_zero, List.getElem?_cons_succ] at hc0 hc1 hc2 hc3
        have HB := Lib.hid hb
        clear hb HBX
        go_wp2_with fail
        have hB := box_store4 (u0 := .slice none 0 0) (u1 := .slice none 0 0) (u2 := .int .i64 0) (u3 := .int .i64 E2) HB.out
        have hfB : Fr [w.heap.size] w2 ((((w2.setCell ⟨w.heap.size, 0, none⟩ (.slice none 0 0)).setCell ⟨w.heap.size, 1, none⟩ (.slice none 0 0)).setCell ⟨w.heap.size, 2, none⟩ (.int .i64 0)).setCell ⟨w.heap.size, 3, none⟩ (.int .i64 E2)) := ((((Fr.refl _ _).setCell (.inl (by simp)) _).setCell (.inl (by simp)) _).setCell (.inl (by simp)) _).setCell (.inl (by simp)) _
        have hd0 := box_cell hB 0
        have hd1 := box_cell hB 1
        have hd2 := box_cell hB 2
        have hd3 := box_cell hB 3
        simp only [List.getElem?_toArray, List.getElem?_cons_zero, List.getElem?_cons_succ] at hd0 hd1 hd2 hd3
        refine bodyPost_ret (v := .agg #[.slice none 0 0, .slice none 0 0, .int .i64 0, .int .i64 E2]) ?_ rfl ⟨none, 0, none, 0, by rw [HD.out, d2]; rfl, by rw [HD.out, d2]; exact nil_rdI _, by rw [HD.out, d2]; exact nil_rdI _, (HF.out.trans HFZ.out).trans_new hfB (by intro x hx; simp at hx; omega)⟩
        generalize ((((w2.setCell ⟨w.heap.size, 0, none⟩ (.slice none 0 0)).setCell ⟨w.heap.size, 1, none⟩ (.slice none 0 0)).setCell ⟨w.heap.size, 2, none⟩ (.int .i64 0)).setCell ⟨w.heap.size, 3, none⟩ (.int .i64 E2)) = wf at *
        simp [results, Try.f43, go_sem, hd0, hd1, hd2, hd3]
    · have HC2 : Hid (∀ w', Fr [] (w.alloc (.cells #[.slice none 0 0, .slice none 0 0, .int .i64 0, .int .i64 0] 54)) w' → Calls Try.prog 65 #[.slice (some ⟨b, off + U, none⟩) (n - U) (cap - U)] w' fun e w'' => ReadR w' e w'' R1) := Lib.hid (fun w' hf => by
        rw [← hR1l]
        exact read_calls w' _ _ R1 (HQ.out w' (HF.out.trans hf)))
      clear hR1l HQ HRD
      go_wp2_with fail
      refine (HC2.out w1 HF1.out).mono ?_
      rintro e w2 ⟨b1, j1, rfl, hi2, hl2, hf2⟩
      rw [HR2.out] at hi2 hl2 ⊢
      simp only at hi2 hl2 ⊢
      have HI1' := Lib.hid (HI1.out.keep hf2); have HI2 := Lib.hid hi2; have HFZ := Lib.hid (HF1.out.trans hf2)
      have HN2 : Hid (∀ b off, b1 = some ⟨b, off, none⟩ → 0 < S2.length → b ≠ w.heap.size) := Lib.hid (fun b off e hl => by have := hl2 b off e hl; have := HF1.out.size; simp at this; omega)
      clear hi2 hl2 hf2 HI1 HF1 HC2
      have HI1 := HI1'
      clear HI1'
      by_cases e2 : E2 = 0
      · subst e2
        obtain ⟨V, hV, hD, hUV⟩ := HUV.out rfl
        rw [hV]
        have HD := Lib.hid hD
        have w6 : wrap64 ((U : Int) + (V : Int)) = (U : Int) + (V : Int) := by simp only [wrap64]; omega
        clear hV hD HUV HD0
        have hb := HBX.out w2 HFZ.out
        have hc0 := box_cell hb 0
        have hc1 := box_cell hb 1
        have hc2 := box_cell hb 2
        have hc3 := box_cell hb 3
        have hr0 := box_free hb 0
        have hr1 := box_free hb 1
        have hr2 := box_free hb 2
        have hr3 := box_free hb 3
        simp only [List.getElem?_toArray, List.getElem?_cons_zero, List.getElem?_cons_succ] at hc0 hc1 hc2 hc3
        have HB := Lib.hid hb
        clear hb HBX
        go_wp2_with fail
        have hB := box_store4 (u0 := .slice a1 S1.length k1) (u1 := .slice b1 S2.length j1) (u2 := .int .i64 ((U : Int) + (V : Int))) (u3 := .int .i64 0) HB.out
        have hfB : Fr [w.heap.size] w2 ((((w2.setCell ⟨w.heap.size, 0, none⟩ (.slice a1 S1.length k1)).setCell ⟨w.heap.size, 1, none⟩ (.slice b1 S2.length j1)).setCell ⟨w.heap.size, 2, none⟩ (.int .i64 ((U : Int) + (V : Int)))).setCell ⟨w.heap.size, 3, none⟩ (.int .i64 0)) := ((((Fr.refl _ _).setCell (.inl (by simp)) _).setCell (.inl (by simp)) _).setCell (.inl (by simp)) _).setCell (.inl (by simp)) _
        have hd0 := box_cell hB 0
        have hd1 := box_cell hB 1
        have hd2 := box_cell hB 2
        have hd3 := box_cell hB 3
        simp only [List.getElem?_toArray, List.getElem?_cons_zero, List.getElem?_cons_succ] at hd0 hd1 hd2 hd3
        refine bodyPost_ret (v := .agg #[.slice a1 S1.length k1, .slice b1 S2.length j1, .int .i64 ((U : Int) + (V : Int)), .int .i64 0]) ?_ rfl ⟨a1, k1, b1, j1, by rw [HD.out], by rw [HD.out]; exact HI1.out.keepNe HN1.out hfB, by rw [HD.out]; exact HI2.out.keepNe HN2.out hfB, (HF.out.trans HFZ.out).trans_new hfB (by intro x hx; simp at hx; omega)⟩
        generalize ((((w2.setCell ⟨w.heap.size, 0, none⟩ (.slice a1 S1.length k1)).setCell ⟨w.heap.size, 1, none⟩ (.slice b1 S2.length j1)).setCell ⟨w.heap.size, 2, none⟩ (.int .i64 ((U : Int) + (V : Int)))).setCell ⟨w.heap.size, 3, none⟩ (.int .i64 0)) = wf at *
        simp [results, Try.f43, go_sem, hd0, hd1, hd2, hd3]
      · have d2 : (E2 == 0) = false := by simpa using e2
        have HD : Hid (D = bif E2 == 0 then (0, S1, S2, (n : Int) - (R2.length : Int)) else (E2, [], [], 0)) := Lib.hid HD0.out
        clear HD0 HUV
        have hb := HBX.out w2 HFZ.out
        have hc0 := box_cell hb 0
        have hc1 := box_cell hb 1
        have hc2 := box_cell hb 2
        have hc3 := box_cell hb 3
        have hr0 := box_free hb 0
        have hr1 := box_free hb 1
        have hr2 := box_free hb 2
        have hr3 := box_free hb 3
        simp only [List.getElem?_toArray, List.getElem?_cons_zero, List.getElem?_cons_succ] at hc0 hc1 hc2 hc3
        have HB := Lib.hid hb
        clear hb HBX
        go_wp2_with fail
        have hB := box_store4 (u0 := .slice none 0 0) (u1 := .slice none 0 0) (u2 := .int .i64 0) (u3 := .int .i64 E2) HB.out
        have hfB : Fr [w.heap.size] w2 ((((w2.setCell ⟨w.heap.size, 0, none⟩ (.slice none 0 0)).setCell ⟨w.heap.size, 1, none⟩ (.slice none 0 0)).setCell ⟨w.heap.size, 2, none⟩ (.int .i64 0)).setCell ⟨w.heap.size, 3, none⟩ (.int .i64 E2)) := ((((Fr.refl _ _).setCell (.inl (by simp)) _).setCell (.inl (by simp)) _).setCell (.inl (by simp)) _).setCell (.inl (by simp)) _
        have hd0 := box_cell hB 0
        have hd1 := box_cell hB 1
        have hd2 := box_cell hB 2
        have hd3 := box_cell hB 3
        simp only [List.getElem?_toArray, List.getElem?_cons_zero, List.getElem?_cons_succ] at hd0 hd1 hd2 hd3
        refine bodyPost_ret (v := .agg #[.slice none 0 0, .slice none 0 0, .int .i64 0, .int .i64 E2]) ?_ rfl ⟨none, 0, none, 0, by rw [HD.out, d2]; rfl, by rw [HD.out, d2]; exact nil_rdI _, by rw [HD.out, d2]; exact nil_rdI _, (HF.out.trans HFZ.out).trans_new hfB (by intro x hx; simp at hx; omega)⟩
        generalize ((((w2.setCell ⟨w.heap.size, 0, none⟩ (.slice none 0 0)).setCell ⟨w.heap.size, 1, none⟩ (.slice none 0 0)).setCell ⟨w.heap.size, 2, none⟩ (.int .i64 0)).setCell ⟨w.heap.size, 3, none⟩ (.int .i64 E2)) = wf at *
        simp [results, Try.f43, go_sem, hd0, hd1, hd2, hd3]
  · have d1 : (E1 == 0) = false := by simpa using e1
    have HD : Hid (D = bif E1 == 0 then (bif E2 == 0 then (0, S1, S2, (n : Int) - (R2.length : Int)) else (E2, [], [], 0)) else (E1, [], [], 0)) := Lib.hid HD0.out
    have HFZ := HF1
    clear HD0 HRD HR1 HR2
    generalize usedB bs = u1 at *
    have hb := HBX.out w1 HFZ.out
    have hc0 := box_cell hb 0
    have hc1 := box_cell hb 1
    have hc2 := box_cell hb 2
    have hc3 := box_cell hb 3
    have hr0 := box_free hb 0
    have hr1 := box_free hb 1
    have hr2 := box_free hb 2
    have hr3 := box_free hb 3
    simp only [List.getElem?_toArray, List.getElem?_cons_zero, List.getElem?_cons_succ] at hc0 hc1 hc2 hc3
    have HB := Lib.hid hb
    clear hb HBX
    go_wp2_with fail
    have hB := box_store4 (u0 := .slice none 0 0) (u1 := .slice none 0 0) (u2 := .int .i64 0) (u3 := .int .i64 E1) HB.out
    have hfB : Fr [w.heap.size] w1 ((((w1.setCell ⟨w.heap.size, 0, none⟩ (.slice none 0 0)).setCell ⟨w.heap.size, 1, none⟩ (.slice none 0 0)).setCell ⟨w.heap.size, 2, none⟩ (.int .i64 0)).setCell ⟨w.heap.size, 3, none⟩ (.int .i64 E1)) := ((((Fr.refl _ _).setCell (.inl (by simp)) _).setCell (.inl (by simp)) _).setCell (.inl (by simp)) _).setCell (.inl (by simp)) _
    have hd0 := box_cell hB 0
    have hd1 := box_cell hB 1
    have hd2 := box_cell hB 2
    have hd3 := box_cell hB 3
    simp only [List.getElem?_toArray, List.getElem?_cons_zero, List.getElem?_cons_succ] at hd0 hd1 hd2 hd3
    refine bodyPost_ret (v := .agg #[.slice none 0 0, .slice none 0 0, .int .i64 0, .int .i64 E1]) ?_ rfl ⟨none, 0, none, 0, by rw [HD.out, d1]; rfl, by rw [HD.out, d1]; exact nil_rdI _, by rw [HD.out, d1]; exact nil_rdI _, (HF.out.trans HFZ.out).trans_new hfB (by intro x hx; simp at hx; omega)⟩
    generalize ((((w1.setCell ⟨w.heap.size, 0, none⟩ (.slice none 0 0)).setCell ⟨w.heap.size, 1, none⟩ (.slice none 0 0)).setCell ⟨w.heap.size, 2, none⟩ (.int .i64 0)).setCell ⟨w.heap.size, 3, none⟩ (.int .i64 E1)) = wf at *
    simp [results, Try.f43, go_sem, hd0, hd1, hd2, hd3]
end Go.Proofs.Ytdbhppfpalpfmaa
