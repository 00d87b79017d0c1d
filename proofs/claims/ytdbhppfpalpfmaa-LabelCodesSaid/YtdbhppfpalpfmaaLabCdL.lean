/-
  LabelCodes: labels as bytes, there and back.
-/
import Derived.Test.YtdbhppfpalpfmaaLabCdE
namespace Go.Proofs.Ytdbhppfpalpfmaa
open Go.RowKit Go.MapKept
set_option maxRecDepth 100000 in
set_option maxHeartbeats 4000000 in
theorem codes_calls (w : World) (a1 a2 a3 : Option Addr) (c1 c2 c3 : Nat) (s i bs : List Int) (h1 : RdI w a1 c1 s) (h2 : RdI w a2 c2 i) (h3 : RdB w a3 c3 bs) (z3 : a3 = none → c3 = 0) (hbg : bs.length + 130 ≤ 140737488355328) :
    Calls Try.prog 6 #[.agg #[.slice a1 s.length c1, .slice a2 i.length c2], .slice a3 bs.length c3] w fun e w' => e = .returned (.bool true) ∧ Fr [] w w' := by
  obtain ⟨i0, hi, hz0, hz1, hz2⟩ := info_parts (show (Try.prog.info? 5).map (fun i => (i.zero, i.size, i.bytes)) = some (some (.int .u8 0), 1, 1) by kernel_rfl)
  have HI := Lib.hid hi; have HZ0 := Lib.hid hz0; have HZ1 := Lib.hid hz1; have HZ2 := Lib.hid hz2
  clear hi hz0 hz1 hz2
  have hF : Fr [] w (w.alloc (.cells #[.slice a1 s.length c1, .slice a2 i.length c2] 26)) := (Fr.refl [] w).alloc _
  have K1 : Hid (∀ w', Fr [] w w' → _) := Lib.hid (fun w' hf => enc_u w' a1 a2 c1 c2 s i (h1.keep hf) (h2.keep hf))
  have K2 : Hid (∀ w', Fr [] w w' → _) := Lib.hid (fun w' hf => renc_u w' a1 a2 c1 c2 s i (h1.keep hf) (h2.keep hf))
  have K3 : Hid (∀ w', Fr [] w w' → _) := Lib.hid (fun w' hf => dec_calls w' a3 c3 bs (h3.keep hf))
  have K4 : Hid (∀ w', Fr [] w w' → _) := Lib.hid (fun w' hf => rdec_calls w' a3 c3 bs (h3.keep hf))
  have KS : Hid (∀ (w' : World) p1 p2 q1 q2 (k1 k2 l1 l2 : Nat), Fr [] w w' → RdI w' p1 k1 (decB bs).2.1 → RdI w' p2 k2 (decB bs).2.2.1 → RdI w' q1 l1 (decB bs).2.1 → RdI w' q2 l2 (decB bs).2.2.1 → Calls Try.prog 26 #[.agg #[.slice p1 (decB bs).2.1.length k1, .slice p2 (decB bs).2.2.1.length k2], .agg #[.slice q1 (decB bs).2.1.length l1, .slice q2 (decB bs).2.2.1.length l2]] w' fun e w'' => e = .returned (.bool true) ∧ Fr [] w' w'') := Lib.hid (fun w' p1 p2 q1 q2 k1 k2 l1 l2 _ r1 r2 r3 r4 => by
    have := rsame_calls w' p1 p2 q1 q2 k1 k2 l1 l2 _ _ _ _ r1 r2 r3 r4
    rw [eqB_self, eqB_self] at this
    exact this)
  have KT : Hid (∀ (w' : World) p1 p2 (k1 k2 : Nat), Fr [] w w' → RdI w' p1 k1 s → RdI w' p2 k2 i → Calls Try.prog 26 #[.agg #[.slice p1 s.length k1, .slice p2 i.length k2], .agg #[.slice a1 s.length c1, .slice a2 i.length c2]] w' fun e w'' => e = .returned (.bool true) ∧ Fr [] w' w'') := Lib.hid (fun w' p1 p2 k1 k2 hf r1 r2 => by
    have := rsame_calls w' p1 p2 a1 a2 k1 k2 c1 c2 _ _ _ _ r1 r2 (h1.keep hf) (h2.keep hf)
    rw [eqB_self, eqB_self] at this
    exact this)
  have KD : Hid (∀ (w' : World) v B, (setB s && setB i) = true → w'.ownsRow B 5 1 v ((encB s i).length + bs.length) ((encB s i ++ bs).map (Value.int .u8)) → ∃ ad cap, v = .slice ad ((encB s i).length + bs.length) cap ∧ Calls Try.prog 42 #[v] w' fun e w'' => DecR w' e w'' (0, s, i, ((encB s i).length : Int))) := Lib.hid (fun w' v B hb ho => by
    have hl := encB_len s i
    obtain ⟨ad, cap, hv, hr, _⟩ := own_rdB ho (by simp; omega) (fun x hx => (List.mem_append.1 hx).elim (encB_is s i x) (h3.isB x))
    have := dec_calls w' ad cap _ hr
    refine ⟨ad, cap, by rw [hv]; simp, ?_⟩
    rw [hv]
    have ⟨s1, s2⟩ : setB s = true ∧ setB i = true := by simpa using hb
    have he : encB s i = codeB s ++ codeB i := by unfold encB; rw [hb]; rfl
    have hd : decB (encB s i ++ bs) = (0, s, i, ((encB s i).length : Int)) := by rw [he, List.append_assoc]; exact decB_code s1 s2 bs
    rw [hd] at this
    exact this)
  have KO : Hid (∀ (w' : World) v B, w'.ownsRow B 5 1 v (encB s i).length ((encB s i).map (Value.int .u8)) → ∃ ad cap, v = .slice ad (encB s i).length cap ∧ RdB w' ad cap (encB s i) ∧ (ad = none → cap = 0) ∧ (convert 45 9 v).run Try.prog w' = .ok (.string ⟨(toU (encB s i)).toArray⟩) w') := Lib.hid (fun w' v B ho => by
    have hl := encB_len s i
    obtain ⟨ad, cap, hv, hrd, hnn⟩ := own_rdB ho (by omega) (encB_is s i)
    exact ⟨ad, cap, hv, hrd, hnn, own_text Try.underlying45 Try.underlying5 Try.underlying9 (encB_is s i) ho⟩)
  have HA : Hid (encE s i = 0 → (setB s && setB i) = true) := Lib.hid (fun h => by
    unfold encE at h
    cases hb : (setB s && setB i) with
    | true => rfl
    | false => rw [hb] at h; cases h)
  have HR1 := Lib.hid h1; have HR2 := Lib.hid h2
  have HC : Hid (∀ w', Fr [] (w.alloc (.cells #[.slice a1 s.length c1, .slice a2 i.length c2] 26)) w' → w'.cell? ⟨w.heap.size, 0, none⟩ = some (.slice a1 s.length c1) ∧ w'.cell? ⟨w.heap.size, 1, none⟩ = some (.slice a2 i.length c2)) := Lib.hid (fun w' hf => by
    have hb := hf.keep (heap_alloc_last w (.cells #[.slice a1 s.length c1, .slice a2 i.length c2] 26)) (by simp)
    exact ⟨by rw [box_cell hb]; rfl, by rw [box_cell hb]; rfl⟩)
  have HLx : Hid ((encB s i).length ≤ 130) := Lib.hid (encB_len s i)
  have HBX := Lib.hid h3
  have HF0 := Lib.hid hF
  have HZ3 := Lib.hid z3
  clear h1 h2 h3 hF z3
  generalize decB bs = D at *
  generalize hxs : encB s i = xs at *
  generalize hev : encE s i = ev at *
  clear hxs hev
  generalize (setB s && setB i) = may at *
  obtain ⟨E, S, I, U⟩ := D
  simp only at KS
  generalize hn1 : s.length = n1 at *
  generalize hn2 : i.length = n2 at *
  have HN1 := Lib.hid hn1; have HN2 := Lib.hid hn2
  clear hn1 hn2
  obtain ⟨n3, hn3⟩ : ∃ n3, bs.length = n3 := ⟨_, rfl⟩
  have HN3 := Lib.hid hn3
  rw [hn3] at hbg KD K3 K4 ⊢
  have HBG := Lib.hid hbg
  clear hn3 hbg
  obtain ⟨W0, hW0⟩ : ∃ W0, w.alloc (.cells #[.slice a1 n1 c1, .slice a2 n2 c2] 26) = W0 := ⟨_, rfl⟩
  rw [hW0] at HC HF0
  have HW0 := Lib.hid hW0
  clear hW0
  go_enter Try.func6, Try.ntmps6
  obtain ⟨hx1, hx2⟩ := HC.out W0 (Fr.refl _ _)
  rw [← HW0.out] at hx1 hx2
  go_wp2_with fail
  rw [HW0.out]
  clear HW0 hx1 hx2
  refine (K1.out _ HF0.out).mono ?_
  rintro e w1 ⟨v1, rfl, ho1, hf⟩
  obtain ⟨hx1, hx2⟩ := HC.out _ hf
  have HO1 := Lib.hid ho1; have HG1 := Lib.hid hf
  clear ho1 hf K1
  go_wp2_with fail
  clear hx1 hx2
  refine (K2.out _ (HF0.out.trans HG1.out)).mono ?_
  rintro e w2 ⟨rfl, hf⟩
  have HG2 := Lib.hid (HG1.out.trans hf); have HO2 := Lib.hid (own_keep HO1.out hf)
  clear hf K2 HO1 HG1
  go_wp2_with fail
  refine (K3.out _ (HF0.out.trans HG2.out)).mono ?_
  rintro e w3 ⟨p1, k1, p2, k2, rfl, r1, r2, hf⟩
  simp only at r1 r2 ⊢
  generalize hm1 : S.length = m1 at *
  generalize hm2 : I.length = m2 at *
  have hf4 : Fr [] W0 (w3.alloc (.cells #[.slice p1 m1 k1, .slice p2 m2 k2] 26)) := (HG2.out.trans hf).alloc _
  have hf34 : Fr [] w3 (w3.alloc (.cells #[.slice p1 m1 k1, .slice p2 m2 k2] 26)) := (Fr.refl [] w3).alloc _
  obtain ⟨w4, hw4⟩ : ∃ w4, w3.alloc (.cells #[.slice p1 m1 k1, .slice p2 m2 k2] 26) = w4 := ⟨_, rfl⟩
  rw [hw4] at hf4 hf34
  have HB1 : Hid (∀ w', Fr [] w4 w' → w'.cell? ⟨w3.heap.size, 0, none⟩ = some (.slice p1 m1 k1) ∧ w'.cell? ⟨w3.heap.size, 1, none⟩ = some (.slice p2 m2 k2)) := Lib.hid (fun w' hf => by
    have hb := hf.keep (by rw [← hw4]; exact heap_alloc_last w3 _) (by simp)
    exact ⟨by rw [box_cell hb]; rfl, by rw [box_cell hb]; rfl⟩)
  have HR3 := Lib.hid (r1.keep hf34); have HR4 := Lib.hid (r2.keep hf34); have HG4 := Lib.hid hf4; have HW4 := Lib.hid hw4
  have HO4 := Lib.hid ((own_keep (own_keep HO2.out hf) hf34))
  clear r1 r2 hf hf4 hf34 hw4 HG2 HO2 K3
  go_wp2_with fail
  rw [HW4.out]
  clear HW4
  refine (K4.out _ (HF0.out.trans HG4.out)).mono ?_
  rintro e w5 ⟨q1, l1, q2, l2, rfl, r1, r2, hf⟩
  simp only at r1 r2 ⊢
  rw [hm1, hm2]
  have hf6 : Fr [] W0 (w5.alloc (.cells #[.slice q1 m1 l1, .slice q2 m2 l2, .int .i64 U, .int .i64 E] 54)) := (HG4.out.trans hf).alloc _
  have hf56 : Fr [] w5 (w5.alloc (.cells #[.slice q1 m1 l1, .slice q2 m2 l2, .int .i64 U, .int .i64 E] 54)) := (Fr.refl [] w5).alloc _
  obtain ⟨w6, hw6⟩ : ∃ w6, w5.alloc (.cells #[.slice q1 m1 l1, .slice q2 m2 l2, .int .i64 U, .int .i64 E] 54) = w6 := ⟨_, rfl⟩
  rw [hw6] at hf6 hf56
  have HB2 : Hid (∀ w', Fr [] w6 w' → w'.cell? ⟨w5.heap.size, 0, none⟩ = some (.slice q1 m1 l1) ∧ w'.cell? ⟨w5.heap.size, 1, none⟩ = some (.slice q2 m2 l2) ∧ w'.cell? ⟨w5.heap.size, 2, none⟩ = some (.int .i64 U) ∧ w'.cell? ⟨w5.heap.size, 3, none⟩ = some (.int .i64 E)) := Lib.hid (fun w' hf => by
    have hb := hf.keep (by rw [← hw6]; exact heap_alloc_last w5 _) (by simp)
    exact ⟨by rw [box_cell hb]; rfl, by rw [box_cell hb]; rfl, by rw [box_cell hb]; rfl, by rw [box_cell hb]; rfl⟩)
  have hf46 := hf.trans hf56
  have hO6 := own_keep HO4.out hf46
  have HK := Lib.hid (KS.out w6 p1 p2 q1 q2 k1 k2 l1 l2 (HF0.out.trans hf6) (HR3.out.keep hf46) (HR4.out.keep hf46) (r1.keep hf56) (r2.keep hf56))
  have HG6 := Lib.hid hf6
  have HW6 := Lib.hid hw6
  obtain ⟨hy1, hy2⟩ := HB1.out w6 hf46
  obtain ⟨hy3, hy4, hy5, hy6⟩ := HB2.out w6 (Fr.refl _ _)
  obtain ⟨ad, cap, hv, hrx, hnx, hcv⟩ := KO.out w6 _ _ hO6
  subst hv
  have HX := Lib.hid hrx; have HXN := Lib.hid hnx
  clear hrx hnx
  rw [← hw6] at hy1 hy2 hy3 hy4 hy5 hy6 hcv
  clear r1 r2 hf hf6 hf56 hf46 hO6 hw6 HR3 HR4 HO4 HG4 K4 KS KO
  go_wp2_with fail
  rw [HW6.out]
  clear HW6 hy1 hy2 hy3 hy4 hy5 hy6 hcv
  refine HK.out.mono ?_
  rintro e w7 ⟨rfl, hf⟩
  obtain ⟨hy3, hy4, hy5, hy6⟩ := HB2.out w7 hf
  have HG7 := Lib.hid (HG6.out.trans hf); have HX7 := Lib.hid (HX.out.keep hf)
  clear hy3 hy4 hf HG6 HX HK HB1 HB2
  by_cases e0 : ev = 0
  · subst e0
    have HM := Lib.hid (HA.out rfl)
    have hnw : (w7.alloc (.cells #[] 5)).ownsRow w7.heap.size 5 1 (.slice (some ⟨w7.heap.size, 0, none⟩) 0 0) 0 (([] : List Int).map (Value.int .u8)) := own_row w7 [] 5 (by unfold maxLen; simp)
    have HNW := Lib.hid hnw
    obtain ⟨nx, hnx⟩ : ∃ nx, xs.length = nx := ⟨_, rfl⟩
    rw [hnx] at HLx KD ⊢
    have HNX := Lib.hid hnx
    have hlx := HLx.out
    clear hnw hnx HA
    go_wp2_with (first
      | ((with_reducible_and_instances refine id (α := wpList _ _ _ (⟨some 68, _, _, _, _, _⟩ :: _) _ _) ?_); refine wL_appendB rfl _ _ 45 rfl w7.heap.size 5 i0 Try.underlying45 HI.out HZ0.out HZ1.out HZ2.out _ 0 [] rfl HNW.out ad cap nx xs HNX.out rfl (HX7.out.keep ((Fr.refl [] w7).alloc _)) HXN.out (by omega) (by simp) ?_)
      | fail)
    intro v8 w8 ho8 hb8
    have hf8 : Fr [] w7 w8 := ((Fr.refl [] w7).alloc (.cells #[] 5)).then_below2 hb8 (Nat.le_refl _)
    have hs8 := hf8.size
    have HG8 := Lib.hid hf8; have HO8 := Lib.hid ho8
    have HR8 := Lib.hid (HBX.out.keep ((HF0.out.trans HG7.out).trans hf8))
    have hbg := HBG.out
    clear hb8 hf8 ho8 HX7 HXN HNW
    go_wp2_with (first
      | ((with_reducible_and_instances refine id (α := wpList _ _ _ (⟨some 70, _, _, _, _, _⟩ :: _) _ _) ?_); refine wL_appendB rfl _ _ 45 rfl w7.heap.size 5 i0 Try.underlying45 HI.out HZ0.out HZ1.out HZ2.out _ nx xs rfl HO8.out a3 c3 n3 bs HN3.out rfl HR8.out HZ3.out (by omega) (by omega) ?_))
    intro v9 w9 ho9 hb9
    have hf9 : Fr [] w7 w9 := HG8.out.then_below2 hb9 (Nat.le_refl _)
    obtain ⟨ad9, c9, rfl, hcd⟩ := KD.out w9 v9 w7.heap.size HM.out (by simpa using ho9)
    have HG9 := Lib.hid (HG7.out.trans hf9); have HCD := Lib.hid hcd
    clear ho9 hb9 hf9 hcd HG8 HO8 HR8 hs8 KD
    go_wp2_with fail
    refine HCD.out.mono ?_
    rintro e w10 ⟨t1, j1, t2, j2, rfl, r1, r2, hf⟩
    simp only at r1 r2 ⊢
    rw [HN1.out, HN2.out]
    have hf11 : Fr [] W0 (w10.alloc (.cells #[.slice t1 n1 j1, .slice t2 n2 j2] 26)) := (HG9.out.trans hf).alloc _
    have hfz : Fr [] w10 (w10.alloc (.cells #[.slice t1 n1 j1, .slice t2 n2 j2] 26)) := (Fr.refl [] w10).alloc _
    obtain ⟨w11, hw11⟩ : ∃ w11, w10.alloc (.cells #[.slice t1 n1 j1, .slice t2 n2 j2] 26) = w11 := ⟨_, rfl⟩
    have hb := heap_alloc_last w10 (.cells #[.slice t1 n1 j1, .slice t2 n2 j2] 26)
    have hy7 := box_cell hb 0
    have hy8 := box_cell hb 1
    simp only [List.getElem?_toArray, List.getElem?_cons_zero, List.getElem?_cons_succ] at hy7 hy8
    rw [hw11] at hf11 hfz
    obtain ⟨hx1, hx2⟩ := HC.out w11 hf11
    rw [← hw11] at hx1 hx2
    have HKT := Lib.hid (KT.out w11 t1 t2 j1 j2 (HF0.out.trans hf11) (r1.keep hfz) (r2.keep hfz))
    have HG11 := Lib.hid hf11; have HW11 := Lib.hid hw11
    clear r1 r2 hf hf11 hfz hb hw11 HG9 HCD KT HC
    go_wp2_with fail
    rw [HW11.out]
    refine HKT.out.mono ?_
    rintro e w12 ⟨rfl, hf⟩
    have HG12 := Lib.hid (HG11.out.trans hf)
    clear hx1 hx2 hy7 hy8 HW11 hf HG11 HKT
    go_wp2_with fail
    refine (awake_calls _).mono ?_
    rintro e w13 ⟨rfl, hf⟩
    have HG13 := Lib.hid ((HF0.out.trans HG12.out).trans hf)
    clear hf
    go_wp2_with fail
    go_ret
    exact ⟨rfl, HG13.out⟩
  · clear KD KT HC HX7 HXN
    go_wp2_with fail
    refine (awake_calls _).mono ?_
    rintro e w13 ⟨rfl, hf⟩
    have HG13 := Lib.hid ((HF0.out.trans HG7.out).trans hf)
    clear hf
    go_wp2_with fail
    go_ret
    exact ⟨rfl, HG13.out⟩
end Go.Proofs.Ytdbhppfpalpfmaa
