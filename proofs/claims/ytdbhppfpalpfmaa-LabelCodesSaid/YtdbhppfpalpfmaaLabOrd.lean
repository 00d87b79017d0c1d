/-
  LabelOrder: flowing is an order.
-/
import Derived.Test.YtdbhppfpalpfmaaLabOrd0
import Derived.Deep.DeepCutAuto
namespace Go.Proofs.Ytdbhppfpalpfmaa
open Go.RowKit Go.MapKept
theorem subB_iff {a b : List Int} : subB a b = true ↔ ∀ x ∈ a, x ∈ b := by unfold subB; exact decide_eq_true_iff
theorem subB_refl (a : List Int) : subB a a = true := subB_iff.2 fun _ h => h
theorem subB_trans {a b c : List Int} (h : subB a b = true) (k : subB b c = true) : subB a c = true := subB_iff.2 fun x hx => subB_iff.1 k x (subB_iff.1 h x hx)
theorem flowsB_refl (s i : List Int) : flowsB s i s i = true := by unfold flowsB; rw [subB_refl, subB_refl]; rfl
theorem flowsB_trans {s i t j u k : List Int} (h : flowsB s i t j = true) (h' : flowsB t j u k = true) : flowsB s i u k = true := by
  unfold flowsB at *
  simp only [Bool.and_eq_true] at *
  exact ⟨subB_trans h.1 h'.1, subB_trans h'.2 h.2⟩
theorem flowsB_join1 {s i t j : List Int} (hs : asc s) (hi : asc i) (ht : asc t) (hj : asc j) : flowsB s i (joinB s t) (meetB i j) = true := by
  unfold flowsB
  simp only [Bool.and_eq_true]
  exact ⟨subB_iff.2 fun x hx => (joinB_mem hs ht x).2 (.inl hx), subB_iff.2 fun x hx => ((meetB_mem hi hj x).1 hx).1⟩
theorem flowsB_join2 {s i t j : List Int} (hs : asc s) (hi : asc i) (ht : asc t) (hj : asc j) : flowsB t j (joinB s t) (meetB i j) = true := by
  unfold flowsB
  simp only [Bool.and_eq_true]
  exact ⟨subB_iff.2 fun x hx => (joinB_mem hs ht x).2 (.inr hx), subB_iff.2 fun x hx => ((meetB_mem hi hj x).1 hx).2⟩
theorem flowsB_least {s i t j u k : List Int} (hs : asc s) (hi : asc i) (ht : asc t) (hj : asc j) (h : flowsB s i u k = true) (h' : flowsB t j u k = true) : flowsB (joinB s t) (meetB i j) u k = true := by
  unfold flowsB at *
  simp only [Bool.and_eq_true] at *
  refine ⟨subB_iff.2 fun x hx => ?_, subB_iff.2 fun x hx => (meetB_mem hi hj x).2 ⟨subB_iff.1 h.2 x hx, subB_iff.1 h'.2 x hx⟩⟩
  rcases (joinB_mem hs ht x).1 hx with hx | hx
  · exact subB_iff.1 h.1 x hx
  · exact subB_iff.1 h'.1 x hx
theorem order_cases {vab vbc vac vba : Bool} (h : vab = true → vbc = true → vac = true) : (vab = false) ∨ (vab = true ∧ vbc = false ∧ vba = false) ∨ (vab = true ∧ vbc = false ∧ vba = true) ∨ (vab = true ∧ vbc = true ∧ vac = true ∧ vba = false) ∨ (vab = true ∧ vbc = true ∧ vac = true ∧ vba = true) := by
  revert h; cases vab <;> cases vbc <;> cases vba <;> cases vac <;> simp
theorem below_fr {a b : World} (h : Fr [] a b) : Below a.heap.size a b := h.below (Nat.le_refl _) (by simp)
theorem fr_regrown (w : World) (d : Nat) (os : Array Obj) : Fr [] w (Go.Sort.grow (redrawn w d) os) := Fr.of_below (below_regrown w d os)
theorem quiet_of_fr {P : Program} {f : FuncId} {args : Array Value} {w0 w : World} {v : Value} (hw : Fr [] w0 w)
    (h : ∀ w', Fr [] w0 w' → Calls P f args w' fun e w'' => e = .returned v ∧ Fr [] w' w'') (d : Nat) (os : Array Obj) :
    Calls P f args (Go.Sort.grow (redrawn w d) os) fun e w'' => e = .returned v ∧ ∃ p : Regrown, w'' = Go.Sort.grow (redrawn w p.d) p.os :=
  Calls.regrown_of ((h _ (hw.trans (fr_regrown w d os))).mono fun e w' ⟨h1, h2⟩ => ⟨h1, below_fr h2⟩)
set_option maxRecDepth 100000 in
set_option maxHeartbeats 4000000 in
theorem order_yes (w : World) (a1 a2 b1 b2 e1 e2 : Option Addr) (c1 d1 c2 d2 c3 d3 : Nat) (s1 i1 s2 i2 s3 i3 : List Int) (h1 : RdI w a1 c1 s1) (h2 : RdI w a2 d1 i1) (h3 : RdI w b1 c2 s2) (h4 : RdI w b2 d2 i2) (h5 : RdI w e1 c3 s3) (h6 : RdI w e2 d3 i3) (m1 : setB s1 = true) (m2 : setB i1 = true) (m3 : setB s2 = true) (m4 : setB i2 = true) (m5 : setB s3 = true) (m6 : setB i3 = true) :
    Calls Try.prog 7 #[.agg #[.slice a1 s1.length c1, .slice a2 i1.length d1], .agg #[.slice b1 s2.length c2, .slice b2 i2.length d2], .agg #[.slice e1 s3.length c3, .slice e2 i3.length d3]] w fun e w' => e = .returned (.bool true) ∧ Fr [] w w' := by
  have hF : Fr [] w (((w.alloc (.cells #[.slice a1 s1.length c1, .slice a2 i1.length d1] 26)).alloc (.cells #[.slice b1 s2.length c2, .slice b2 i2.length d2] 26)).alloc (.cells #[.slice e1 s3.length c3, .slice e2 i3.length d3] 26)) := (((Fr.refl [] w).alloc _).alloc _).alloc _
  have hc : ∀ w', Fr [] (((w.alloc (.cells #[.slice a1 s1.length c1, .slice a2 i1.length d1] 26)).alloc (.cells #[.slice b1 s2.length c2, .slice b2 i2.length d2] 26)).alloc (.cells #[.slice e1 s3.length c3, .slice e2 i3.length d3] 26)) w' → (w'.cell? ⟨w.heap.size, 0, none⟩ = some (.slice a1 s1.length c1) ∧ w'.cell? ⟨w.heap.size, 1, none⟩ = some (.slice a2 i1.length d1)) ∧ (w'.cell? ⟨w.heap.size + 1, 0, none⟩ = some (.slice b1 s2.length c2) ∧ w'.cell? ⟨w.heap.size + 1, 1, none⟩ = some (.slice b2 i2.length d2)) ∧ (w'.cell? ⟨w.heap.size + 1 + 1, 0, none⟩ = some (.slice e1 s3.length c3) ∧ w'.cell? ⟨w.heap.size + 1 + 1, 1, none⟩ = some (.slice e2 i3.length d3)) := fun w' hf => by
    obtain ⟨hb1, hb2, hb3⟩ := three_boxes hf
    exact ⟨⟨by rw [box_cell hb1]; rfl, by rw [box_cell hb1]; rfl⟩, ⟨by rw [box_cell hb2]; rfl, by rw [box_cell hb2]; rfl⟩, by rw [box_cell hb3]; rfl, by rw [box_cell hb3]; rfl⟩
  have hm1 : ∀ w', Fr [] (((w.alloc (.cells #[.slice a1 s1.length c1, .slice a2 i1.length d1] 26)).alloc (.cells #[.slice b1 s2.length c2, .slice b2 i2.length d2] 26)).alloc (.cells #[.slice e1 s3.length c3, .slice e2 i3.length d3] 26)) w' → Calls Try.prog 10 #[.agg #[.slice a1 s1.length c1, .slice a2 i1.length d1]] w' (fun e w'' => e = .returned (.bool (setB s1 && setB i1)) ∧ Fr [] w' w'') :=
    fun w' hf => may_calls w' a1 a2 c1 d1 s1 i1 (h1.keep (hF.trans hf)) (h2.keep (hF.trans hf))
  have hm2 : ∀ w', Fr [] (((w.alloc (.cells #[.slice a1 s1.length c1, .slice a2 i1.length d1] 26)).alloc (.cells #[.slice b1 s2.length c2, .slice b2 i2.length d2] 26)).alloc (.cells #[.slice e1 s3.length c3, .slice e2 i3.length d3] 26)) w' → Calls Try.prog 10 #[.agg #[.slice b1 s2.length c2, .slice b2 i2.length d2]] w' (fun e w'' => e = .returned (.bool (setB s2 && setB i2)) ∧ Fr [] w' w'') :=
    fun w' hf => may_calls w' b1 b2 c2 d2 s2 i2 (h3.keep (hF.trans hf)) (h4.keep (hF.trans hf))
  have hm3 : ∀ w', Fr [] (((w.alloc (.cells #[.slice a1 s1.length c1, .slice a2 i1.length d1] 26)).alloc (.cells #[.slice b1 s2.length c2, .slice b2 i2.length d2] 26)).alloc (.cells #[.slice e1 s3.length c3, .slice e2 i3.length d3] 26)) w' → Calls Try.prog 10 #[.agg #[.slice e1 s3.length c3, .slice e2 i3.length d3]] w' (fun e w'' => e = .returned (.bool (setB s3 && setB i3)) ∧ Fr [] w' w'') :=
    fun w' hf => may_calls w' e1 e2 c3 d3 s3 i3 (h5.keep (hF.trans hf)) (h6.keep (hF.trans hf))
  rw [m1, m2] at hm1
  rw [m3, m4] at hm2
  rw [m5, m6] at hm3
  simp only [Bool.and_self] at hm1 hm2 hm3
  have faa : ∀ w', Fr [] (((w.alloc (.cells #[.slice a1 s1.length c1, .slice a2 i1.length d1] 26)).alloc (.cells #[.slice b1 s2.length c2, .slice b2 i2.length d2] 26)).alloc (.cells #[.slice e1 s3.length c3, .slice e2 i3.length d3] 26)) w' → Calls Try.prog 27 #[.agg #[.slice a1 s1.length c1, .slice a2 i1.length d1], .agg #[.slice a1 s1.length c1, .slice a2 i1.length d1]] w' (fun e w'' => e = .returned (.bool (flowsB s1 i1 s1 i1)) ∧ Fr [] w' w'') :=
    fun w' hf => flows_calls w' a1 a2 a1 a2 c1 d1 c1 d1 s1 i1 s1 i1 (h1.keep (hF.trans hf)) (h2.keep (hF.trans hf)) (h1.keep (hF.trans hf)) (h2.keep (hF.trans hf))
  rw [flowsB_refl] at faa
  have fab : ∀ w', Fr [] (((w.alloc (.cells #[.slice a1 s1.length c1, .slice a2 i1.length d1] 26)).alloc (.cells #[.slice b1 s2.length c2, .slice b2 i2.length d2] 26)).alloc (.cells #[.slice e1 s3.length c3, .slice e2 i3.length d3] 26)) w' → Calls Try.prog 27 #[.agg #[.slice a1 s1.length c1, .slice a2 i1.length d1], .agg #[.slice b1 s2.length c2, .slice b2 i2.length d2]] w' (fun e w'' => e = .returned (.bool (flowsB s1 i1 s2 i2)) ∧ Fr [] w' w'') :=
    fun w' hf => flows_calls w' a1 a2 b1 b2 c1 d1 c2 d2 s1 i1 s2 i2 (h1.keep (hF.trans hf)) (h2.keep (hF.trans hf)) (h3.keep (hF.trans hf)) (h4.keep (hF.trans hf))
  have fbc : ∀ w', Fr [] (((w.alloc (.cells #[.slice a1 s1.length c1, .slice a2 i1.length d1] 26)).alloc (.cells #[.slice b1 s2.length c2, .slice b2 i2.length d2] 26)).alloc (.cells #[.slice e1 s3.length c3, .slice e2 i3.length d3] 26)) w' → Calls Try.prog 27 #[.agg #[.slice b1 s2.length c2, .slice b2 i2.length d2], .agg #[.slice e1 s3.length c3, .slice e2 i3.length d3]] w' (fun e w'' => e = .returned (.bool (flowsB s2 i2 s3 i3)) ∧ Fr [] w' w'') :=
    fun w' hf => flows_calls w' b1 b2 e1 e2 c2 d2 c3 d3 s2 i2 s3 i3 (h3.keep (hF.trans hf)) (h4.keep (hF.trans hf)) (h5.keep (hF.trans hf)) (h6.keep (hF.trans hf))
  have fac : ∀ w', Fr [] (((w.alloc (.cells #[.slice a1 s1.length c1, .slice a2 i1.length d1] 26)).alloc (.cells #[.slice b1 s2.length c2, .slice b2 i2.length d2] 26)).alloc (.cells #[.slice e1 s3.length c3, .slice e2 i3.length d3] 26)) w' → Calls Try.prog 27 #[.agg #[.slice a1 s1.length c1, .slice a2 i1.length d1], .agg #[.slice e1 s3.length c3, .slice e2 i3.length d3]] w' (fun e w'' => e = .returned (.bool (flowsB s1 i1 s3 i3)) ∧ Fr [] w' w'') :=
    fun w' hf => flows_calls w' a1 a2 e1 e2 c1 d1 c3 d3 s1 i1 s3 i3 (h1.keep (hF.trans hf)) (h2.keep (hF.trans hf)) (h5.keep (hF.trans hf)) (h6.keep (hF.trans hf))
  have fba : ∀ w', Fr [] (((w.alloc (.cells #[.slice a1 s1.length c1, .slice a2 i1.length d1] 26)).alloc (.cells #[.slice b1 s2.length c2, .slice b2 i2.length d2] 26)).alloc (.cells #[.slice e1 s3.length c3, .slice e2 i3.length d3] 26)) w' → Calls Try.prog 27 #[.agg #[.slice b1 s2.length c2, .slice b2 i2.length d2], .agg #[.slice a1 s1.length c1, .slice a2 i1.length d1]] w' (fun e w'' => e = .returned (.bool (flowsB s2 i2 s1 i1)) ∧ Fr [] w' w'') :=
    fun w' hf => flows_calls w' b1 b2 a1 a2 c2 d2 c1 d1 s2 i2 s1 i1 (h3.keep (hF.trans hf)) (h4.keep (hF.trans hf)) (h1.keep (hF.trans hf)) (h2.keep (hF.trans hf))
  have hsm : ∀ w', Fr [] (((w.alloc (.cells #[.slice a1 s1.length c1, .slice a2 i1.length d1] 26)).alloc (.cells #[.slice b1 s2.length c2, .slice b2 i2.length d2] 26)).alloc (.cells #[.slice e1 s3.length c3, .slice e2 i3.length d3] 26)) w' → Calls Try.prog 25 #[.agg #[.slice a1 s1.length c1, .slice a2 i1.length d1], .agg #[.slice b1 s2.length c2, .slice b2 i2.length d2]] w' (fun e w'' => e = .returned (.bool (flowsB s1 i1 s2 i2 && flowsB s2 i2 s1 i1)) ∧ Fr [] w' w'') :=
    fun w' hf => same_calls w' a1 a2 b1 b2 c1 d1 c2 d2 s1 i1 s2 i2 (h1.keep (hF.trans hf)) (h2.keep (hF.trans hf)) (h3.keep (hF.trans hf)) (h4.keep (hF.trans hf))
  have htr : flowsB s1 i1 s2 i2 = true → flowsB s2 i2 s3 i3 = true → flowsB s1 i1 s3 i3 = true := flowsB_trans
  have hls : flowsB s1 i1 s3 i3 = true → flowsB s2 i2 s3 i3 = true → flowsB (joinB s1 s2) (meetB i1 i2) s3 i3 = true := flowsB_least (setB_asc m1) (setB_asc m2) (setB_asc m3) (setB_asc m4)
  have hjo : ∀ w', Fr [] (((w.alloc (.cells #[.slice a1 s1.length c1, .slice a2 i1.length d1] 26)).alloc (.cells #[.slice b1 s2.length c2, .slice b2 i2.length d2] 26)).alloc (.cells #[.slice e1 s3.length c3, .slice e2 i3.length d3] 26)) w' → Calls Try.prog 15 #[.slice a1 s1.length c1, .slice b1 s2.length c2] w' _ :=
    fun w' hf => join_sets w' a1 b1 c1 c2 s1 s2 (h1.keep (hF.trans hf)) (h3.keep (hF.trans hf)) m1 m3 (setB (joinB s1 s2)) rfl
  have hme : ∀ w', Fr [] (((w.alloc (.cells #[.slice a1 s1.length c1, .slice a2 i1.length d1] 26)).alloc (.cells #[.slice b1 s2.length c2, .slice b2 i2.length d2] 26)).alloc (.cells #[.slice e1 s3.length c3, .slice e2 i3.length d3] 26)) w' → Calls Try.prog 18 #[.slice a2 i1.length d1, .slice b2 i2.length d2] w' _ :=
    fun w' hf => meet_sets w' a2 b2 d1 d2 i1 i2 (h2.keep (hF.trans hf)) (h4.keep (hF.trans hf)) m2 m4
  have fj : ∀ (w' : World) (x y : Option Addr) (cx cy : Nat), Fr [] (((w.alloc (.cells #[.slice a1 s1.length c1, .slice a2 i1.length d1] 26)).alloc (.cells #[.slice b1 s2.length c2, .slice b2 i2.length d2] 26)).alloc (.cells #[.slice e1 s3.length c3, .slice e2 i3.length d3] 26)) w' → RdI w' x cx (joinB s1 s2) → RdI w' y cy (meetB i1 i2) →
      Calls Try.prog 27 #[.agg #[.slice a1 s1.length c1, .slice a2 i1.length d1], .agg #[.slice x (joinB s1 s2).length cx, .slice y (meetB i1 i2).length cy]] w' (fun e w'' => e = .returned (.bool true) ∧ Fr [] w' w'') ∧
      Calls Try.prog 27 #[.agg #[.slice b1 s2.length c2, .slice b2 i2.length d2], .agg #[.slice x (joinB s1 s2).length cx, .slice y (meetB i1 i2).length cy]] w' (fun e w'' => e = .returned (.bool true) ∧ Fr [] w' w'') ∧
      Calls Try.prog 27 #[.agg #[.slice x (joinB s1 s2).length cx, .slice y (meetB i1 i2).length cy], .agg #[.slice e1 s3.length c3, .slice e2 i3.length d3]] w' (fun e w'' => e = .returned (.bool (flowsB (joinB s1 s2) (meetB i1 i2) s3 i3)) ∧ Fr [] w' w'') := by
    intro w' x y cx cy hf hx hy
    have k1 := flows_calls w' a1 a2 x y c1 d1 cx cy s1 i1 _ _ (h1.keep (hF.trans hf)) (h2.keep (hF.trans hf)) hx hy
    have k2 := flows_calls w' b1 b2 x y c2 d2 cx cy s2 i2 _ _ (h3.keep (hF.trans hf)) (h4.keep (hF.trans hf)) hx hy
    have k3 := flows_calls w' x y e1 e2 cx cy c3 d3 _ _ s3 i3 hx hy (h5.keep (hF.trans hf)) (h6.keep (hF.trans hf))
    have q1 := flowsB_join1 (setB_asc m1) (setB_asc m2) (setB_asc m3) (setB_asc m4)
    have q2 := flowsB_join2 (setB_asc m1) (setB_asc m2) (setB_asc m3) (setB_asc m4)
    unfold flowsB at q1 q2
    rw [q1] at k1
    rw [q2] at k2
    exact ⟨k1, k2, k3⟩
  have HC := Lib.hid hc; have HFF := Lib.hid hF
  have HM1 := Lib.hid hm1
  have HM2 := Lib.hid hm2
  have HM3 := Lib.hid hm3
  have FAA := Lib.hid faa
  have FAB := Lib.hid fab
  have FBC := Lib.hid fbc
  have FAC := Lib.hid fac
  have FBA := Lib.hid fba
  have HSM := Lib.hid hsm
  have HTR := Lib.hid htr
  have HLS := Lib.hid hls
  have HJO := Lib.hid hjo
  have HME := Lib.hid hme
  have FJ := Lib.hid fj
  clear hF hc h1 h2 h3 h4 h5 h6 m1 m2 m3 m4 m5 m6 hm1 hm2 hm3 faa fab fbc fac fba hsm htr hls hjo hme fj
  generalize setB (joinB s1 s2) = r at *
  generalize flowsB (joinB s1 s2) (meetB i1 i2) s3 i3 = vjc at *
  generalize joinB s1 s2 = js at *
  generalize meetB i1 i2 = ji at *
  generalize flowsB s1 i1 s2 i2 = vab at *
  generalize flowsB s2 i2 s3 i3 = vbc at *
  generalize flowsB s1 i1 s3 i3 = vac at *
  generalize flowsB s2 i2 s1 i1 = vba at *
  generalize s1.length = n1 at *
  generalize i1.length = n2 at *
  generalize s2.length = n3 at *
  generalize i2.length = n4 at *
  generalize s3.length = n5 at *
  generalize i3.length = n6 at *
  go_enter Try.func7, Try.ntmps7
  have HFW : Hid (Fr [] (((w.alloc (.cells #[.slice a1 n1 c1, .slice a2 n2 d1] 26)).alloc (.cells #[.slice b1 n3 c2, .slice b2 n4 d2] 26)).alloc (.cells #[.slice e1 n5 c3, .slice e2 n6 d3] 26)) _) := Lib.hid (Fr.refl [] _)
  obtain ⟨⟨hx1, hx2⟩, ⟨hx3, hx4⟩, hx5, hx6⟩ := HC.out _ HFW.out
  go_wp2_with fail
  refine (HM1.out _ HFW.out).mono ?_
  rintro e w1 ⟨rfl, hf⟩
  have HFW' := Lib.hid (HFW.out.trans hf)
  clear hf HFW hx1 hx2 hx3 hx4 hx5 hx6
  have HFW := HFW'
  clear HFW'
  obtain ⟨⟨hx1, hx2⟩, ⟨hx3, hx4⟩, hx5, hx6⟩ := HC.out _ HFW.out
  go_wp2_with fail
  refine (HM2.out _ HFW.out).mono ?_
  rintro e w2 ⟨rfl, hf⟩
  have HFW' := Lib.hid (HFW.out.trans hf)
  clear hf HFW hx1 hx2 hx3 hx4 hx5 hx6
  have HFW := HFW'
  clear HFW'
  obtain ⟨⟨hx1, hx2⟩, ⟨hx3, hx4⟩, hx5, hx6⟩ := HC.out _ HFW.out
  go_wp2_with fail
  refine (HM3.out _ HFW.out).mono ?_
  rintro e w3 ⟨rfl, hf⟩
  have HFW' := Lib.hid (HFW.out.trans hf)
  clear hf HFW hx1 hx2 hx3 hx4 hx5 hx6
  have HFW := HFW'
  clear HFW'
  obtain ⟨⟨hx1, hx2⟩, ⟨hx3, hx4⟩, hx5, hx6⟩ := HC.out _ HFW.out
  go_wp2_with fail
  go_upto_region 3 with fail
  clear hx1 hx2 hx3 hx4 hx5 hx6
  go_cut [57] (fun v wx => v = .bool false ∧ Fr [] (((w.alloc (.cells #[.slice a1 n1 c1, .slice a2 n2 d1] 26)).alloc (.cells #[.slice b1 n3 c2, .slice b2 n4 d2] 26)).alloc (.cells #[.slice e1 n5 c3, .slice e2 n6 d3] 26)) wx)
  case first =>
    obtain ⟨⟨hx1, hx2⟩, ⟨hx3, hx4⟩, hx5, hx6⟩ := HC.out _ HFW.out
    have q1 := cell_regrown hx1; have q2 := cell_regrown hx2; have q3 := cell_regrown hx3; have q4 := cell_regrown hx4; have q5 := cell_regrown hx5; have q6 := cell_regrown hx6
    clear hx1 hx2 hx3 hx4 hx5 hx6
    have kaa := quiet_of_fr HFW.out FAA.out
    have kab := quiet_of_fr HFW.out FAB.out
    have kbc := quiet_of_fr HFW.out FBC.out
    have kac := quiet_of_fr HFW.out FAC.out
    have kba := quiet_of_fr HFW.out FBA.out
    have ksm := quiet_of_fr HFW.out HSM.out
    rcases order_cases (vba := vba) HTR.out with rfl | ⟨rfl, rfl, rfl⟩ | ⟨rfl, rfl, rfl⟩ | ⟨rfl, rfl, rfl, rfl⟩ | ⟨rfl, rfl, rfl, rfl⟩
    all_goals
      simp only [Bool.and_true, Bool.and_false, Bool.false_and, Bool.true_and, Bool.and_self] at ksm
      refine wp_region_quiet_below (by kernel_rfl) (by kernel_rfl) ?_
      repeat (go_big_quiet_step (with_reducible (first | exact kaa _ _ | exact kab _ _ | exact kbc _ _ | exact kac _ _ | exact kba _ _ | exact ksm _ _)))
      refine wpQuiet_nil ?_
      intro _ hw'
      obtain ⟨⟨dq, osq⟩, hw''⟩ := hw'
      subst hw''
      go_wp2_with fail
      go_meet
      exact ⟨rfl, HFW.out.trans (fr_regrown _ dq osq)⟩
  case rest =>
    obtain ⟨rfl, hfw⟩ := hcut
    have HFW := Lib.hid hfw
    clear hfw
    obtain ⟨⟨hx1, hx2⟩, ⟨hx3, hx4⟩, hx5, hx6⟩ := HC.out _ HFW.out
    have hjo := HJO.out _ HFW.out
    have HJLn : ∃ k, js.length = k := ⟨_, rfl⟩
    have HILn : ∃ k, ji.length = k := ⟨_, rfl⟩
    obtain ⟨js_len, hjl⟩ := HJLn
    obtain ⟨ji_len, hil⟩ := HILn
    cases r with
    | true =>
      go_wp2_with fail
      refine hjo.mono ?_
      rintro e w5 ⟨ad, cap, rfl, hr, hf⟩
      rw [hjl]
      simp only [cond_true]
      have HFW' := Lib.hid (HFW.out.trans hf); have HF5 := Lib.hid hf; have HR := Lib.hid hr; have HJL := Lib.hid hjl; have HIL := Lib.hid hil
      clear hf HFW hx1 hx2 hx3 hx4 hx5 hx6 hr hjo hjl hil HJO
      have HFW := HFW'
      clear HFW'
      obtain ⟨⟨hx1, hx2⟩, ⟨hx3, hx4⟩, hx5, hx6⟩ := HC.out _ HFW.out
      have hme := HME.out _ HFW.out
      go_wp2_with fail
      refine hme.mono ?_
      rintro e w6 ⟨ad2, cap2, rfl, hr2, hf⟩
      rw [HIL.out]
      have hf9 : Fr [] w6 (w6.alloc (.cells #[.slice ad js_len cap, .slice ad2 ji_len cap2] 26)) := (Fr.refl [] w6).alloc _
      have hcj : ∀ w', Fr [] (w6.alloc (.cells #[.slice ad js_len cap, .slice ad2 ji_len cap2] 26)) w' → w'.cell? ⟨w6.heap.size, 0, none⟩ = some (.slice ad js_len cap) ∧ w'.cell? ⟨w6.heap.size, 1, none⟩ = some (.slice ad2 ji_len cap2) := fun w' h => by
        have hb := h.keep (heap_alloc_last w6 (.cells #[.slice ad js_len cap, .slice ad2 ji_len cap2] 26)) (by simp)
        exact ⟨by rw [box_cell hb]; rfl, by rw [box_cell hb]; rfl⟩
      have hr9 := HR.out.keep (hf.trans hf9)
      have hr29 := hr2.keep hf9
      have hfw9 := (HFW.out.trans hf).trans hf9
      have hfj : ∀ w', Fr [] (((w.alloc (.cells #[.slice a1 n1 c1, .slice a2 n2 d1] 26)).alloc (.cells #[.slice b1 n3 c2, .slice b2 n4 d2] 26)).alloc (.cells #[.slice e1 n5 c3, .slice e2 n6 d3] 26)) w' → Fr [] (w6.alloc (.cells #[.slice ad js_len cap, .slice ad2 ji_len cap2] 26)) w' → _ := fun w' h h' => FJ.out w' ad ad2 cap cap2 h (hr9.keep h') (hr29.keep h')
      rw [HJL.out, HIL.out] at hfj
      have HFJ := Lib.hid hfj; have HCJ := Lib.hid hcj; have HFW' := Lib.hid hfw9
      clear hf hf9 hcj hr9 hr29 hfw9 hfj HFW hx1 hx2 hx3 hx4 hx5 hx6 hr2 hme HME FJ HR
      have HFW := HFW'
      clear HFW'
      go_upto_region 7 with fail
      obtain ⟨w9, hw9⟩ : ∃ w9, w6.alloc (.cells #[.slice ad js_len cap, .slice ad2 ji_len cap2] 26) = w9 := ⟨_, rfl⟩
      rw [hw9] at HFJ HCJ HFW ⊢
      obtain ⟨g9, hg9⟩ : ∃ g, w6.heap.size = g := ⟨_, rfl⟩
      rw [hg9] at HCJ ⊢
      clear hw9 hg9
      have HF9 : Hid (Fr [] w9 w9) := Lib.hid (Fr.refl [] w9)
      obtain ⟨⟨hx1, hx2⟩, ⟨hx3, hx4⟩, hx5, hx6⟩ := HC.out _ HFW.out
      obtain ⟨hj1, hj2⟩ := HCJ.out _ HF9.out
      cases vac with
      | true =>
        cases vbc with
        | true =>
          obtain rfl : vjc = true := HLS.out rfl rfl
          go_wp2_with fail
          refine ((HFJ.out _ HFW.out HF9.out).1).mono ?_
          rintro e wq ⟨rfl, hf⟩
          have HFW' := Lib.hid (HFW.out.trans hf); have HF9' := Lib.hid (HF9.out.trans hf)
          clear hf HFW HF9 hx1 hx2 hx3 hx4 hx5 hx6 hj1 hj2
          have HFW := HFW'; have HF9 := HF9'
          clear HFW' HF9'
          obtain ⟨⟨hx1, hx2⟩, ⟨hx3, hx4⟩, hx5, hx6⟩ := HC.out _ HFW.out
          obtain ⟨hj1, hj2⟩ := HCJ.out _ HF9.out
          go_wp2_with fail
          refine ((HFJ.out _ HFW.out HF9.out).2.1).mono ?_
          rintro e wq ⟨rfl, hf⟩
          have HFW' := Lib.hid (HFW.out.trans hf); have HF9' := Lib.hid (HF9.out.trans hf)
          clear hf HFW HF9 hx1 hx2 hx3 hx4 hx5 hx6 hj1 hj2
          have HFW := HFW'; have HF9 := HF9'
          clear HFW' HF9'
          obtain ⟨⟨hx1, hx2⟩, ⟨hx3, hx4⟩, hx5, hx6⟩ := HC.out _ HFW.out
          obtain ⟨hj1, hj2⟩ := HCJ.out _ HF9.out
          go_wp2_with fail
          refine (FAC.out _ HFW.out).mono ?_
          rintro e wq ⟨rfl, hf⟩
          have HFW' := Lib.hid (HFW.out.trans hf); have HF9' := Lib.hid (HF9.out.trans hf)
          clear hf HFW HF9 hx1 hx2 hx3 hx4 hx5 hx6 hj1 hj2
          have HFW := HFW'; have HF9 := HF9'
          clear HFW' HF9'
          obtain ⟨⟨hx1, hx2⟩, ⟨hx3, hx4⟩, hx5, hx6⟩ := HC.out _ HFW.out
          obtain ⟨hj1, hj2⟩ := HCJ.out _ HF9.out
          go_wp2_with fail
          refine (FBC.out _ HFW.out).mono ?_
          rintro e wq ⟨rfl, hf⟩
          have HFW' := Lib.hid (HFW.out.trans hf); have HF9' := Lib.hid (HF9.out.trans hf)
          clear hf HFW HF9 hx1 hx2 hx3 hx4 hx5 hx6 hj1 hj2
          have HFW := HFW'; have HF9 := HF9'
          clear HFW' HF9'
          obtain ⟨⟨hx1, hx2⟩, ⟨hx3, hx4⟩, hx5, hx6⟩ := HC.out _ HFW.out
          obtain ⟨hj1, hj2⟩ := HCJ.out _ HF9.out
          go_wp2_with fail
          refine ((HFJ.out _ HFW.out HF9.out).2.2).mono ?_
          rintro e wq ⟨rfl, hf⟩
          have HFW' := Lib.hid (HFW.out.trans hf); have HF9' := Lib.hid (HF9.out.trans hf)
          clear hf HFW HF9 hx1 hx2 hx3 hx4 hx5 hx6 hj1 hj2
          have HFW := HFW'; have HF9 := HF9'
          clear HFW' HF9'
          obtain ⟨⟨hx1, hx2⟩, ⟨hx3, hx4⟩, hx5, hx6⟩ := HC.out _ HFW.out
          obtain ⟨hj1, hj2⟩ := HCJ.out _ HF9.out
          go_wp2_with fail
          clear hx1 hx2 hx3 hx4 hx5 hx6 hj1 hj2
          refine (awake_calls _).mono ?_
          rintro e w9 ⟨rfl, hf⟩
          have HZ := Lib.hid (HFF.out.trans (HFW.out.trans hf))
          clear hf HFW
          go_wp2_with fail
          go_ret
          exact ⟨rfl, HZ.out⟩
        | false =>
          go_wp2_with fail
          refine ((HFJ.out _ HFW.out HF9.out).1).mono ?_
          rintro e wq ⟨rfl, hf⟩
          have HFW' := Lib.hid (HFW.out.trans hf); have HF9' := Lib.hid (HF9.out.trans hf)
          clear hf HFW HF9 hx1 hx2 hx3 hx4 hx5 hx6 hj1 hj2
          have HFW := HFW'; have HF9 := HF9'
          clear HFW' HF9'
          obtain ⟨⟨hx1, hx2⟩, ⟨hx3, hx4⟩, hx5, hx6⟩ := HC.out _ HFW.out
          obtain ⟨hj1, hj2⟩ := HCJ.out _ HF9.out
          go_wp2_with fail
          refine ((HFJ.out _ HFW.out HF9.out).2.1).mono ?_
          rintro e wq ⟨rfl, hf⟩
          have HFW' := Lib.hid (HFW.out.trans hf); have HF9' := Lib.hid (HF9.out.trans hf)
          clear hf HFW HF9 hx1 hx2 hx3 hx4 hx5 hx6 hj1 hj2
          have HFW := HFW'; have HF9 := HF9'
          clear HFW' HF9'
          obtain ⟨⟨hx1, hx2⟩, ⟨hx3, hx4⟩, hx5, hx6⟩ := HC.out _ HFW.out
          obtain ⟨hj1, hj2⟩ := HCJ.out _ HF9.out
          go_wp2_with fail
          refine (FAC.out _ HFW.out).mono ?_
          rintro e wq ⟨rfl, hf⟩
          have HFW' := Lib.hid (HFW.out.trans hf); have HF9' := Lib.hid (HF9.out.trans hf)
          clear hf HFW HF9 hx1 hx2 hx3 hx4 hx5 hx6 hj1 hj2
          have HFW := HFW'; have HF9 := HF9'
          clear HFW' HF9'
          obtain ⟨⟨hx1, hx2⟩, ⟨hx3, hx4⟩, hx5, hx6⟩ := HC.out _ HFW.out
          obtain ⟨hj1, hj2⟩ := HCJ.out _ HF9.out
          go_wp2_with fail
          refine (FBC.out _ HFW.out).mono ?_
          rintro e wq ⟨rfl, hf⟩
          have HFW' := Lib.hid (HFW.out.trans hf); have HF9' := Lib.hid (HF9.out.trans hf)
          clear hf HFW HF9 hx1 hx2 hx3 hx4 hx5 hx6 hj1 hj2
          have HFW := HFW'; have HF9 := HF9'
          clear HFW' HF9'
          obtain ⟨⟨hx1, hx2⟩, ⟨hx3, hx4⟩, hx5, hx6⟩ := HC.out _ HFW.out
          obtain ⟨hj1, hj2⟩ := HCJ.out _ HF9.out
          go_wp2_with fail
          clear hx1 hx2 hx3 hx4 hx5 hx6 hj1 hj2
          refine (awake_calls _).mono ?_
          rintro e w9 ⟨rfl, hf⟩
          have HZ := Lib.hid (HFF.out.trans (HFW.out.trans hf))
          clear hf HFW
          go_wp2_with fail
          go_ret
          exact ⟨rfl, HZ.out⟩
      | false =>
        go_wp2_with fail
        refine ((HFJ.out _ HFW.out HF9.out).1).mono ?_
        rintro e wq ⟨rfl, hf⟩
        have HFW' := Lib.hid (HFW.out.trans hf); have HF9' := Lib.hid (HF9.out.trans hf)
        clear hf HFW HF9 hx1 hx2 hx3 hx4 hx5 hx6 hj1 hj2
        have HFW := HFW'; have HF9 := HF9'
        clear HFW' HF9'
        obtain ⟨⟨hx1, hx2⟩, ⟨hx3, hx4⟩, hx5, hx6⟩ := HC.out _ HFW.out
        obtain ⟨hj1, hj2⟩ := HCJ.out _ HF9.out
        go_wp2_with fail
        refine ((HFJ.out _ HFW.out HF9.out).2.1).mono ?_
        rintro e wq ⟨rfl, hf⟩
        have HFW' := Lib.hid (HFW.out.trans hf); have HF9' := Lib.hid (HF9.out.trans hf)
        clear hf HFW HF9 hx1 hx2 hx3 hx4 hx5 hx6 hj1 hj2
        have HFW := HFW'; have HF9 := HF9'
        clear HFW' HF9'
        obtain ⟨⟨hx1, hx2⟩, ⟨hx3, hx4⟩, hx5, hx6⟩ := HC.out _ HFW.out
        obtain ⟨hj1, hj2⟩ := HCJ.out _ HF9.out
        go_wp2_with fail
        refine (FAC.out _ HFW.out).mono ?_
        rintro e wq ⟨rfl, hf⟩
        have HFW' := Lib.hid (HFW.out.trans hf); have HF9' := Lib.hid (HF9.out.trans hf)
        clear hf HFW HF9 hx1 hx2 hx3 hx4 hx5 hx6 hj1 hj2
        have HFW := HFW'; have HF9 := HF9'
        clear HFW' HF9'
        obtain ⟨⟨hx1, hx2⟩, ⟨hx3, hx4⟩, hx5, hx6⟩ := HC.out _ HFW.out
        obtain ⟨hj1, hj2⟩ := HCJ.out _ HF9.out
        go_wp2_with fail
        clear hx1 hx2 hx3 hx4 hx5 hx6 hj1 hj2
        refine (awake_calls _).mono ?_
        rintro e w9 ⟨rfl, hf⟩
        have HZ := Lib.hid (HFF.out.trans (HFW.out.trans hf))
        clear hf HFW
        go_wp2_with fail
        go_ret
        exact ⟨rfl, HZ.out⟩
    | false =>
      go_wp2_with fail
      refine hjo.mono ?_
      rintro e w5 ⟨ad, cap, rfl, hr, hf⟩
      simp only [cond_false]
      have HFW' := Lib.hid (HFW.out.trans hf)
      clear hf HFW hx1 hx2 hx3 hx4 hx5 hx6 hr hjo hjl hil HJO
      have HFW := HFW'
      clear HFW'
      obtain ⟨⟨hx1, hx2⟩, ⟨hx3, hx4⟩, hx5, hx6⟩ := HC.out _ HFW.out
      have hme := HME.out _ HFW.out
      go_wp2_with fail
      refine hme.mono ?_
      rintro e w6 ⟨ad2, cap2, rfl, hr2, hf⟩
      have HFW' := Lib.hid (((HFW.out.trans hf)).alloc (.cells #[.slice none 0 0, .slice ad2 ji.length cap2] 26))
      clear hf HFW hx1 hx2 hx3 hx4 hx5 hx6 hr2 hme HME FJ
      have HFW := HFW'
      clear HFW'
      go_wp2_with fail
      refine (awake_calls _).mono ?_
      rintro e w9 ⟨rfl, hf⟩
      have HZ := Lib.hid (HFF.out.trans (HFW.out.trans hf))
      clear hf HFW
      go_wp2_with fail
      go_ret
      exact ⟨rfl, HZ.out⟩
theorem order_calls (w : World) (a1 a2 b1 b2 e1 e2 : Option Addr) (c1 d1 c2 d2 c3 d3 : Nat) (s1 i1 s2 i2 s3 i3 : List Int) (h1 : RdI w a1 c1 s1) (h2 : RdI w a2 d1 i1) (h3 : RdI w b1 c2 s2) (h4 : RdI w b2 d2 i2) (h5 : RdI w e1 c3 s3) (h6 : RdI w e2 d3 i3) : Calls Try.prog 7 #[.agg #[.slice a1 s1.length c1, .slice a2 i1.length d1], .agg #[.slice b1 s2.length c2, .slice b2 i2.length d2], .agg #[.slice e1 s3.length c3, .slice e2 i3.length d3]] w fun e w' => e = .returned (.bool true) ∧ Fr [] w w' := by
  rcases Bool.eq_false_or_eq_true (setB s1 && setB i1) with m1 | m1
  · rcases Bool.eq_false_or_eq_true (setB s2 && setB i2) with m2 | m2
    · rcases Bool.eq_false_or_eq_true (setB s3 && setB i3) with m3 | m3
      · simp only [Bool.and_eq_true] at m1 m2 m3
        exact order_yes w a1 a2 b1 b2 e1 e2 c1 d1 c2 d2 c3 d3 s1 i1 s2 i2 s3 i3 h1 h2 h3 h4 h5 h6 m1.1 m1.2 m2.1 m2.2 m3.1 m3.2
      · exact order_no3 w a1 a2 b1 b2 e1 e2 c1 d1 c2 d2 c3 d3 s1 i1 s2 i2 s3 i3 h1 h2 h3 h4 h5 h6 m1 m2 m3
    · exact order_no2 w a1 a2 b1 b2 e1 e2 c1 d1 c2 d2 c3 d3 s1 i1 s2 i2 s3 i3 h1 h2 h3 h4 h5 h6 m1 m2
  · exact order_no1 w a1 a2 b1 b2 e1 e2 c1 d1 c2 d2 c3 d3 s1 i1 s2 i2 s3 i3 h1 h2 h3 h4 h5 h6 m1
end Go.Proofs.Ytdbhppfpalpfmaa
