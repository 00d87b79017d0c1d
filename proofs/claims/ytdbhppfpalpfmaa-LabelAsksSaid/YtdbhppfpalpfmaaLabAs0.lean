/-
  LabelAsks: where a label or capabilities may not be.
-/
import Derived.Test.YtdbhppfpalpfmaaLabDd
import Derived.Test.YtdbhppfpalpfmaaLabA
import Derived.Deep.DeepCutAuto
namespace Go.Proofs.Ytdbhppfpalpfmaa
open Go.RowKit Go.MapKept
theorem four_boxes {w : World} {x y z v : Array Value} {T U V X : TypeId} {w' : World} (hf : Fr [] ((((w.alloc (.cells x T)).alloc (.cells y U)).alloc (.cells z V)).alloc (.cells v X)) w') :
    w'.heap[w.heap.size]? = some (.cells x T (0, 0)) ∧ w'.heap[w.heap.size + 1]? = some (.cells y U (0, 0)) ∧ w'.heap[w.heap.size + 1 + 1]? = some (.cells z V (0, 0)) ∧ w'.heap[w.heap.size + 1 + 1 + 1]? = some (.cells v X (0, 0)) := by
  obtain ⟨h1, h2, h3⟩ := three_boxes (((Fr.refl [] _).alloc _).trans hf)
  refine ⟨h1, h2, h3, hf.keep ?_ (by simp)⟩
  have := heap_alloc_last (((w.alloc (.cells x T)).alloc (.cells y U)).alloc (.cells z V)) (.cells v X)
  simpa only [World.size_alloc] using this
set_option maxRecDepth 100000 in
set_option maxHeartbeats 4000000 in
theorem asks_no1 (w : World) (a1 a2 b1 b2 p1 p2 q1 q2 t1 : Option Addr) (c1 d1 c2 d2 k1 k2 l1 l2 ct : Nat) (s1 i1 s2 i2 p m q o tt : List Int) (h1 : RdI w a1 c1 s1) (h2 : RdI w a2 d1 i1) (h3 : RdI w b1 c2 s2) (h4 : RdI w b2 d2 i2) (h5 : RdI w p1 k1 p) (h6 : RdI w p2 k2 m) (h7 : RdI w q1 l1 q) (h8 : RdI w q2 l2 o) (h9 : RdI w t1 ct tt) (m1 : (setB s1 && setB i1) = false) :
    Calls Try.prog 5 #[.agg #[.slice a1 s1.length c1, .slice a2 i1.length d1], .agg #[.slice b1 s2.length c2, .slice b2 i2.length d2], .agg #[.slice p1 p.length k1, .slice p2 m.length k2], .agg #[.slice q1 q.length l1, .slice q2 o.length l2], .slice t1 tt.length ct] w fun e w' => e = .returned (.bool true) ∧ Fr [] w w' := by
  have hF : Fr [] w ((((w.alloc (.cells #[.slice a1 s1.length c1, .slice a2 i1.length d1] 26)).alloc (.cells #[.slice b1 s2.length c2, .slice b2 i2.length d2] 26)).alloc (.cells #[.slice p1 p.length k1, .slice p2 m.length k2] 35)).alloc (.cells #[.slice q1 q.length l1, .slice q2 o.length l2] 35)) := ((((Fr.refl [] w).alloc _).alloc _).alloc _).alloc _
  have HC : Hid (∀ w', Fr [] ((((w.alloc (.cells #[.slice a1 s1.length c1, .slice a2 i1.length d1] 26)).alloc (.cells #[.slice b1 s2.length c2, .slice b2 i2.length d2] 26)).alloc (.cells #[.slice p1 p.length k1, .slice p2 m.length k2] 35)).alloc (.cells #[.slice q1 q.length l1, .slice q2 o.length l2] 35)) w' → (w'.cell? ⟨w.heap.size, 0, none⟩ = some (.slice a1 s1.length c1) ∧ w'.cell? ⟨w.heap.size, 1, none⟩ = some (.slice a2 i1.length d1)) ∧ (w'.cell? ⟨w.heap.size + 1, 0, none⟩ = some (.slice b1 s2.length c2) ∧ w'.cell? ⟨w.heap.size + 1, 1, none⟩ = some (.slice b2 i2.length d2)) ∧ (w'.cell? ⟨w.heap.size + 1 + 1, 0, none⟩ = some (.slice p1 p.length k1) ∧ w'.cell? ⟨w.heap.size + 1 + 1, 1, none⟩ = some (.slice p2 m.length k2)) ∧ (w'.cell? ⟨w.heap.size + 1 + 1 + 1, 0, none⟩ = some (.slice q1 q.length l1) ∧ w'.cell? ⟨w.heap.size + 1 + 1 + 1, 1, none⟩ = some (.slice q2 o.length l2))) := Lib.hid (fun w' hf => by
    obtain ⟨hb1, hb2, hb3, hb4⟩ := four_boxes hf
    exact ⟨⟨by rw [box_cell hb1]; rfl, by rw [box_cell hb1]; rfl⟩, ⟨by rw [box_cell hb2]; rfl, by rw [box_cell hb2]; rfl⟩, ⟨by rw [box_cell hb3]; rfl, by rw [box_cell hb3]; rfl⟩, by rw [box_cell hb4]; rfl, by rw [box_cell hb4]; rfl⟩)
  have HR1 : Hid (∀ w', Fr [] ((((w.alloc (.cells #[.slice a1 s1.length c1, .slice a2 i1.length d1] 26)).alloc (.cells #[.slice b1 s2.length c2, .slice b2 i2.length d2] 26)).alloc (.cells #[.slice p1 p.length k1, .slice p2 m.length k2] 35)).alloc (.cells #[.slice q1 q.length l1, .slice q2 o.length l2] 35)) w' → Calls Try.prog 22 #[.agg #[.slice a1 s1.length c1, .slice a2 i1.length d1]] w' _) := Lib.hid (fun w' hf => rmay_calls w' a1 a2 c1 d1 s1 i1 (h1.keep (hF.trans hf)) (h2.keep (hF.trans hf)))
  have HR2 : Hid (∀ w', Fr [] ((((w.alloc (.cells #[.slice a1 s1.length c1, .slice a2 i1.length d1] 26)).alloc (.cells #[.slice b1 s2.length c2, .slice b2 i2.length d2] 26)).alloc (.cells #[.slice p1 p.length k1, .slice p2 m.length k2] 35)).alloc (.cells #[.slice q1 q.length l1, .slice q2 o.length l2] 35)) w' → Calls Try.prog 22 #[.agg #[.slice b1 s2.length c2, .slice b2 i2.length d2]] w' _) := Lib.hid (fun w' hf => rmay_calls w' b1 b2 c2 d2 s2 i2 (h3.keep (hF.trans hf)) (h4.keep (hF.trans hf)))
  have HR3 : Hid (∀ w', Fr [] ((((w.alloc (.cells #[.slice a1 s1.length c1, .slice a2 i1.length d1] 26)).alloc (.cells #[.slice b1 s2.length c2, .slice b2 i2.length d2] 26)).alloc (.cells #[.slice p1 p.length k1, .slice p2 m.length k2] 35)).alloc (.cells #[.slice q1 q.length l1, .slice q2 o.length l2] 35)) w' → Calls Try.prog 22 #[.agg #[.slice p1 p.length k1, .slice p2 m.length k2]] w' _) := Lib.hid (fun w' hf => rmay_calls w' p1 p2 k1 k2 p m (h5.keep (hF.trans hf)) (h6.keep (hF.trans hf)))
  have HR4 : Hid (∀ w', Fr [] ((((w.alloc (.cells #[.slice a1 s1.length c1, .slice a2 i1.length d1] 26)).alloc (.cells #[.slice b1 s2.length c2, .slice b2 i2.length d2] 26)).alloc (.cells #[.slice p1 p.length k1, .slice p2 m.length k2] 35)).alloc (.cells #[.slice q1 q.length l1, .slice q2 o.length l2] 35)) w' → Calls Try.prog 22 #[.agg #[.slice q1 q.length l1, .slice q2 o.length l2]] w' _) := Lib.hid (fun w' hf => rmay_calls w' q1 q2 l1 l2 q o (h7.keep (hF.trans hf)) (h8.keep (hF.trans hf)))
  have HL1 : Hid (∀ w', Fr [] ((((w.alloc (.cells #[.slice a1 s1.length c1, .slice a2 i1.length d1] 26)).alloc (.cells #[.slice b1 s2.length c2, .slice b2 i2.length d2] 26)).alloc (.cells #[.slice p1 p.length k1, .slice p2 m.length k2] 35)).alloc (.cells #[.slice q1 q.length l1, .slice q2 o.length l2] 35)) w' → Calls Try.prog 10 #[.agg #[.slice a1 s1.length c1, .slice a2 i1.length d1]] w' _) := Lib.hid (fun w' hf => may_calls w' a1 a2 c1 d1 s1 i1 (h1.keep (hF.trans hf)) (h2.keep (hF.trans hf)))
  have HL2 : Hid (∀ w', Fr [] ((((w.alloc (.cells #[.slice a1 s1.length c1, .slice a2 i1.length d1] 26)).alloc (.cells #[.slice b1 s2.length c2, .slice b2 i2.length d2] 26)).alloc (.cells #[.slice p1 p.length k1, .slice p2 m.length k2] 35)).alloc (.cells #[.slice q1 q.length l1, .slice q2 o.length l2] 35)) w' → Calls Try.prog 10 #[.agg #[.slice b1 s2.length c2, .slice b2 i2.length d2]] w' _) := Lib.hid (fun w' hf => may_calls w' b1 b2 c2 d2 s2 i2 (h3.keep (hF.trans hf)) (h4.keep (hF.trans hf)))
  have HF := Lib.hid hF
  rw [m1] at HR1 HL1
  clear hF h1 h2 h3 h4 h5 h6 h7 h8 h9 m1
  generalize (setB s2 && setB i2) = rb at *
  have bb := bool_self rb
  generalize s1.length = n1 at *
  generalize i1.length = n2 at *
  generalize s2.length = n3 at *
  generalize i2.length = n4 at *
  generalize p.length = n5 at *
  generalize m.length = n6 at *
  generalize q.length = n7 at *
  generalize o.length = n8 at *
  generalize tt.length = n9 at *
  obtain ⟨W4, hW4⟩ : ∃ W4, ((((w.alloc (.cells #[.slice a1 n1 c1, .slice a2 n2 d1] 26)).alloc (.cells #[.slice b1 n3 c2, .slice b2 n4 d2] 26)).alloc (.cells #[.slice p1 n5 k1, .slice p2 n6 k2] 35)).alloc (.cells #[.slice q1 n7 l1, .slice q2 n8 l2] 35)) = W4 := ⟨_, rfl⟩
  rw [hW4] at HC HF HR1 HR2 HR3 HR4 HL1 HL2
  have HW4 := Lib.hid hW4
  clear hW4
  go_enter Try.func5, Try.ntmps5
  obtain ⟨⟨hx1, hx2⟩, ⟨hx3, hx4⟩, ⟨hx5, hx6⟩, hx7, hx8⟩ := HC.out W4 (Fr.refl _ _)
  rw [← HW4.out] at hx1 hx2 hx3 hx4 hx5 hx6 hx7 hx8
  go_wp2_with fail
  rw [HW4.out]
  clear HW4 hx1 hx2 hx3 hx4 hx5 hx6 hx7 hx8
  have HFW : Hid (Fr [] W4 W4) := Lib.hid (Fr.refl _ _)
  refine (HR1.out _ HFW.out).mono ?_
  rintro e w1 ⟨rfl, hf⟩
  have HFW' := Lib.hid (HFW.out.trans hf)
  clear hf HFW
  have HFW := HFW'
  clear HFW'
  obtain ⟨⟨hx1, hx2⟩, ⟨hx3, hx4⟩, ⟨hx5, hx6⟩, hx7, hx8⟩ := HC.out _ HFW.out
  go_wp2_with fail
  try clear hx1 hx2 hx3 hx4 hx5 hx6 hx7 hx8
  obtain ⟨⟨hx1, hx2⟩, ⟨hx3, hx4⟩, ⟨hx5, hx6⟩, hx7, hx8⟩ := HC.out _ HFW.out
  have q1 := cell_regrown hx1; have q2 := cell_regrown hx2; have q3 := cell_regrown hx3; have q4 := cell_regrown hx4
  clear hx1 hx2 hx3 hx4 hx5 hx6 hx7 hx8
  have ka := quiet_of_fr HFW.out HL1.out
  have kb := quiet_of_fr HFW.out HL2.out
  have ra := quiet_of_fr HFW.out HR1.out
  have rb' := quiet_of_fr HFW.out HR2.out
  have kw := quiet_of_fr HFW.out (fun w' _ => awake_calls w')
  refine wp_region_quiet_below (by kernel_rfl) (by kernel_rfl) ?_
  repeat (go_big_quiet_step (with_reducible (first | exact ka _ _ | exact kb _ _ | exact ra _ _ | exact rb' _ _ | exact kw _ _)))
  refine wpQuiet_nil ?_
  intro _ hw'
  obtain ⟨⟨dq, osq⟩, hw''⟩ := hw'
  subst hw''
  have HZ := Lib.hid ((HF.out.trans HFW.out).trans (fr_regrown _ dq osq))
  clear ka kb ra rb' kw q1 q2 q3 q4 HC HR1 HR2 HR3 HR4 HL1 HL2
  go_wp2_with fail
  go_ret
  exact ⟨rfl, HZ.out⟩
set_option maxRecDepth 100000 in
set_option maxHeartbeats 4000000 in
theorem asks_no2 (w : World) (a1 a2 b1 b2 p1 p2 q1 q2 t1 : Option Addr) (c1 d1 c2 d2 k1 k2 l1 l2 ct : Nat) (s1 i1 s2 i2 p m q o tt : List Int) (h1 : RdI w a1 c1 s1) (h2 : RdI w a2 d1 i1) (h3 : RdI w b1 c2 s2) (h4 : RdI w b2 d2 i2) (h5 : RdI w p1 k1 p) (h6 : RdI w p2 k2 m) (h7 : RdI w q1 l1 q) (h8 : RdI w q2 l2 o) (h9 : RdI w t1 ct tt) (m1 : (setB s1 && setB i1) = true) (m2 : (setB s2 && setB i2) = false) :
    Calls Try.prog 5 #[.agg #[.slice a1 s1.length c1, .slice a2 i1.length d1], .agg #[.slice b1 s2.length c2, .slice b2 i2.length d2], .agg #[.slice p1 p.length k1, .slice p2 m.length k2], .agg #[.slice q1 q.length l1, .slice q2 o.length l2], .slice t1 tt.length ct] w fun e w' => e = .returned (.bool true) ∧ Fr [] w w' := by
  have hF : Fr [] w ((((w.alloc (.cells #[.slice a1 s1.length c1, .slice a2 i1.length d1] 26)).alloc (.cells #[.slice b1 s2.length c2, .slice b2 i2.length d2] 26)).alloc (.cells #[.slice p1 p.length k1, .slice p2 m.length k2] 35)).alloc (.cells #[.slice q1 q.length l1, .slice q2 o.length l2] 35)) := ((((Fr.refl [] w).alloc _).alloc _).alloc _).alloc _
  have HC : Hid (∀ w', Fr [] ((((w.alloc (.cells #[.slice a1 s1.length c1, .slice a2 i1.length d1] 26)).alloc (.cells #[.slice b1 s2.length c2, .slice b2 i2.length d2] 26)).alloc (.cells #[.slice p1 p.length k1, .slice p2 m.length k2] 35)).alloc (.cells #[.slice q1 q.length l1, .slice q2 o.length l2] 35)) w' → (w'.cell? ⟨w.heap.size, 0, none⟩ = some (.slice a1 s1.length c1) ∧ w'.cell? ⟨w.heap.size, 1, none⟩ = some (.slice a2 i1.length d1)) ∧ (w'.cell? ⟨w.heap.size + 1, 0, none⟩ = some (.slice b1 s2.length c2) ∧ w'.cell? ⟨w.heap.size + 1, 1, none⟩ = some (.slice b2 i2.length d2)) ∧ (w'.cell? ⟨w.heap.size + 1 + 1, 0, none⟩ = some (.slice p1 p.length k1) ∧ w'.cell? ⟨w.heap.size + 1 + 1, 1, none⟩ = some (.slice p2 m.length k2)) ∧ (w'.cell? ⟨w.heap.size + 1 + 1 + 1, 0, none⟩ = some (.slice q1 q.length l1) ∧ w'.cell? ⟨w.heap.size + 1 + 1 + 1, 1, none⟩ = some (.slice q2 o.length l2))) := Lib.hid (fun w' hf => by
    obtain ⟨hb1, hb2, hb3, hb4⟩ := four_boxes hf
    exact ⟨⟨by rw [box_cell hb1]; rfl, by rw [box_cell hb1]; rfl⟩, ⟨by rw [box_cell hb2]; rfl, by rw [box_cell hb2]; rfl⟩, ⟨by rw [box_cell hb3]; rfl, by rw [box_cell hb3]; rfl⟩, by rw [box_cell hb4]; rfl, by rw [box_cell hb4]; rfl⟩)
  have HR1 : Hid (∀ w', Fr [] ((((w.alloc (.cells #[.slice a1 s1.length c1, .slice a2 i1.length d1] 26)).alloc (.cells #[.slice b1 s2.length c2, .slice b2 i2.length d2] 26)).alloc (.cells #[.slice p1 p.length k1, .slice p2 m.length k2] 35)).alloc (.cells #[.slice q1 q.length l1, .slice q2 o.length l2] 35)) w' → Calls Try.prog 22 #[.agg #[.slice a1 s1.length c1, .slice a2 i1.length d1]] w' _) := Lib.hid (fun w' hf => rmay_calls w' a1 a2 c1 d1 s1 i1 (h1.keep (hF.trans hf)) (h2.keep (hF.trans hf)))
  have HR2 : Hid (∀ w', Fr [] ((((w.alloc (.cells #[.slice a1 s1.length c1, .slice a2 i1.length d1] 26)).alloc (.cells #[.slice b1 s2.length c2, .slice b2 i2.length d2] 26)).alloc (.cells #[.slice p1 p.length k1, .slice p2 m.length k2] 35)).alloc (.cells #[.slice q1 q.length l1, .slice q2 o.length l2] 35)) w' → Calls Try.prog 22 #[.agg #[.slice b1 s2.length c2, .slice b2 i2.length d2]] w' _) := Lib.hid (fun w' hf => rmay_calls w' b1 b2 c2 d2 s2 i2 (h3.keep (hF.trans hf)) (h4.keep (hF.trans hf)))
  have HR3 : Hid (∀ w', Fr [] ((((w.alloc (.cells #[.slice a1 s1.length c1, .slice a2 i1.length d1] 26)).alloc (.cells #[.slice b1 s2.length c2, .slice b2 i2.length d2] 26)).alloc (.cells #[.slice p1 p.length k1, .slice p2 m.length k2] 35)).alloc (.cells #[.slice q1 q.length l1, .slice q2 o.length l2] 35)) w' → Calls Try.prog 22 #[.agg #[.slice p1 p.length k1, .slice p2 m.length k2]] w' _) := Lib.hid (fun w' hf => rmay_calls w' p1 p2 k1 k2 p m (h5.keep (hF.trans hf)) (h6.keep (hF.trans hf)))
  have HR4 : Hid (∀ w', Fr [] ((((w.alloc (.cells #[.slice a1 s1.length c1, .slice a2 i1.length d1] 26)).alloc (.cells #[.slice b1 s2.length c2, .slice b2 i2.length d2] 26)).alloc (.cells #[.slice p1 p.length k1, .slice p2 m.length k2] 35)).alloc (.cells #[.slice q1 q.length l1, .slice q2 o.length l2] 35)) w' → Calls Try.prog 22 #[.agg #[.slice q1 q.length l1, .slice q2 o.length l2]] w' _) := Lib.hid (fun w' hf => rmay_calls w' q1 q2 l1 l2 q o (h7.keep (hF.trans hf)) (h8.keep (hF.trans hf)))
  have HL1 : Hid (∀ w', Fr [] ((((w.alloc (.cells #[.slice a1 s1.length c1, .slice a2 i1.length d1] 26)).alloc (.cells #[.slice b1 s2.length c2, .slice b2 i2.length d2] 26)).alloc (.cells #[.slice p1 p.length k1, .slice p2 m.length k2] 35)).alloc (.cells #[.slice q1 q.length l1, .slice q2 o.length l2] 35)) w' → Calls Try.prog 10 #[.agg #[.slice a1 s1.length c1, .slice a2 i1.length d1]] w' _) := Lib.hid (fun w' hf => may_calls w' a1 a2 c1 d1 s1 i1 (h1.keep (hF.trans hf)) (h2.keep (hF.trans hf)))
  have HL2 : Hid (∀ w', Fr [] ((((w.alloc (.cells #[.slice a1 s1.length c1, .slice a2 i1.length d1] 26)).alloc (.cells #[.slice b1 s2.length c2, .slice b2 i2.length d2] 26)).alloc (.cells #[.slice p1 p.length k1, .slice p2 m.length k2] 35)).alloc (.cells #[.slice q1 q.length l1, .slice q2 o.length l2] 35)) w' → Calls Try.prog 10 #[.agg #[.slice b1 s2.length c2, .slice b2 i2.length d2]] w' _) := Lib.hid (fun w' hf => may_calls w' b1 b2 c2 d2 s2 i2 (h3.keep (hF.trans hf)) (h4.keep (hF.trans hf)))
  have HF := Lib.hid hF
  rw [m1] at HR1 HL1
  rw [m2] at HR2 HL2
  clear hF h1 h2 h3 h4 h5 h6 h7 h8 h9 m1 m2
  generalize s1.length = n1 at *
  generalize i1.length = n2 at *
  generalize s2.length = n3 at *
  generalize i2.length = n4 at *
  generalize p.length = n5 at *
  generalize m.length = n6 at *
  generalize q.length = n7 at *
  generalize o.length = n8 at *
  generalize tt.length = n9 at *
  obtain ⟨W4, hW4⟩ : ∃ W4, ((((w.alloc (.cells #[.slice a1 n1 c1, .slice a2 n2 d1] 26)).alloc (.cells #[.slice b1 n3 c2, .slice b2 n4 d2] 26)).alloc (.cells #[.slice p1 n5 k1, .slice p2 n6 k2] 35)).alloc (.cells #[.slice q1 n7 l1, .slice q2 n8 l2] 35)) = W4 := ⟨_, rfl⟩
  rw [hW4] at HC HF HR1 HR2 HR3 HR4 HL1 HL2
  have HW4 := Lib.hid hW4
  clear hW4
  go_enter Try.func5, Try.ntmps5
  obtain ⟨⟨hx1, hx2⟩, ⟨hx3, hx4⟩, ⟨hx5, hx6⟩, hx7, hx8⟩ := HC.out W4 (Fr.refl _ _)
  rw [← HW4.out] at hx1 hx2 hx3 hx4 hx5 hx6 hx7 hx8
  go_wp2_with fail
  rw [HW4.out]
  clear HW4 hx1 hx2 hx3 hx4 hx5 hx6 hx7 hx8
  have HFW : Hid (Fr [] W4 W4) := Lib.hid (Fr.refl _ _)
  refine (HR1.out _ HFW.out).mono ?_
  rintro e w1 ⟨rfl, hf⟩
  have HFW' := Lib.hid (HFW.out.trans hf)
  clear hf HFW
  have HFW := HFW'
  clear HFW'
  obtain ⟨⟨hx1, hx2⟩, ⟨hx3, hx4⟩, ⟨hx5, hx6⟩, hx7, hx8⟩ := HC.out _ HFW.out
  go_wp2_with fail
  try clear hx1 hx2 hx3 hx4 hx5 hx6 hx7 hx8
  refine (HR2.out _ HFW.out).mono ?_
  rintro e w2 ⟨rfl, hf⟩
  have HFW' := Lib.hid (HFW.out.trans hf)
  clear hf HFW
  have HFW := HFW'
  clear HFW'
  obtain ⟨⟨hx1, hx2⟩, ⟨hx3, hx4⟩, ⟨hx5, hx6⟩, hx7, hx8⟩ := HC.out _ HFW.out
  go_wp2_with fail
  try clear hx1 hx2 hx3 hx4 hx5 hx6 hx7 hx8
  obtain ⟨⟨hx1, hx2⟩, ⟨hx3, hx4⟩, ⟨hx5, hx6⟩, hx7, hx8⟩ := HC.out _ HFW.out
  have q1 := cell_regrown hx1; have q2 := cell_regrown hx2; have q3 := cell_regrown hx3; have q4 := cell_regrown hx4
  clear hx1 hx2 hx3 hx4 hx5 hx6 hx7 hx8
  have ka := quiet_of_fr HFW.out HL1.out
  have kb := quiet_of_fr HFW.out HL2.out
  have ra := quiet_of_fr HFW.out HR1.out
  have rb' := quiet_of_fr HFW.out HR2.out
  have kw := quiet_of_fr HFW.out (fun w' _ => awake_calls w')
  refine wp_region_quiet_below (by kernel_rfl) (by kernel_rfl) ?_
  repeat (go_big_quiet_step (with_reducible (first | exact ka _ _ | exact kb _ _ | exact ra _ _ | exact rb' _ _ | exact kw _ _)))
  refine wpQuiet_nil ?_
  intro _ hw'
  obtain ⟨⟨dq, osq⟩, hw''⟩ := hw'
  subst hw''
  have HZ := Lib.hid ((HF.out.trans HFW.out).trans (fr_regrown _ dq osq))
  clear ka kb ra rb' kw q1 q2 q3 q4 HC HR1 HR2 HR3 HR4 HL1 HL2
  go_wp2_with fail
  go_ret
  exact ⟨rfl, HZ.out⟩
set_option maxRecDepth 100000 in
set_option maxHeartbeats 4000000 in
theorem asks_no3 (w : World) (a1 a2 b1 b2 p1 p2 q1 q2 t1 : Option Addr) (c1 d1 c2 d2 k1 k2 l1 l2 ct : Nat) (s1 i1 s2 i2 p m q o tt : List Int) (h1 : RdI w a1 c1 s1) (h2 : RdI w a2 d1 i1) (h3 : RdI w b1 c2 s2) (h4 : RdI w b2 d2 i2) (h5 : RdI w p1 k1 p) (h6 : RdI w p2 k2 m) (h7 : RdI w q1 l1 q) (h8 : RdI w q2 l2 o) (h9 : RdI w t1 ct tt) (m1 : (setB s1 && setB i1) = true) (m2 : (setB s2 && setB i2) = true) (m3 : (setB p && setB m) = false) :
    Calls Try.prog 5 #[.agg #[.slice a1 s1.length c1, .slice a2 i1.length d1], .agg #[.slice b1 s2.length c2, .slice b2 i2.length d2], .agg #[.slice p1 p.length k1, .slice p2 m.length k2], .agg #[.slice q1 q.length l1, .slice q2 o.length l2], .slice t1 tt.length ct] w fun e w' => e = .returned (.bool true) ∧ Fr [] w w' := by
  have hF : Fr [] w ((((w.alloc (.cells #[.slice a1 s1.length c1, .slice a2 i1.length d1] 26)).alloc (.cells #[.slice b1 s2.length c2, .slice b2 i2.length d2] 26)).alloc (.cells #[.slice p1 p.length k1, .slice p2 m.length k2] 35)).alloc (.cells #[.slice q1 q.length l1, .slice q2 o.length l2] 35)) := ((((Fr.refl [] w).alloc _).alloc _).alloc _).alloc _
  have HC : Hid (∀ w', Fr [] ((((w.alloc (.cells #[.slice a1 s1.length c1, .slice a2 i1.length d1] 26)).alloc (.cells #[.slice b1 s2.length c2, .slice b2 i2.length d2] 26)).alloc (.cells #[.slice p1 p.length k1, .slice p2 m.length k2] 35)).alloc (.cells #[.slice q1 q.length l1, .slice q2 o.length l2] 35)) w' → (w'.cell? ⟨w.heap.size, 0, none⟩ = some (.slice a1 s1.length c1) ∧ w'.cell? ⟨w.heap.size, 1, none⟩ = some (.slice a2 i1.length d1)) ∧ (w'.cell? ⟨w.heap.size + 1, 0, none⟩ = some (.slice b1 s2.length c2) ∧ w'.cell? ⟨w.heap.size + 1, 1, none⟩ = some (.slice b2 i2.length d2)) ∧ (w'.cell? ⟨w.heap.size + 1 + 1, 0, none⟩ = some (.slice p1 p.length k1) ∧ w'.cell? ⟨w.heap.size + 1 + 1, 1, none⟩ = some (.slice p2 m.length k2)) ∧ (w'.cell? ⟨w.heap.size + 1 + 1 + 1, 0, none⟩ = some (.slice q1 q.length l1) ∧ w'.cell? ⟨w.heap.size + 1 + 1 + 1, 1, none⟩ = some (.slice q2 o.length l2))) := Lib.hid (fun w' hf => by
    obtain ⟨hb1, hb2, hb3, hb4⟩ := four_boxes hf
    exact ⟨⟨by rw [box_cell hb1]; rfl, by rw [box_cell hb1]; rfl⟩, ⟨by rw [box_cell hb2]; rfl, by rw [box_cell hb2]; rfl⟩, ⟨by rw [box_cell hb3]; rfl, by rw [box_cell hb3]; rfl⟩, by rw [box_cell hb4]; rfl, by rw [box_cell hb4]; rfl⟩)
  have HR1 : Hid (∀ w', Fr [] ((((w.alloc (.cells #[.slice a1 s1.length c1, .slice a2 i1.length d1] 26)).alloc (.cells #[.slice b1 s2.length c2, .slice b2 i2.length d2] 26)).alloc (.cells #[.slice p1 p.length k1, .slice p2 m.length k2] 35)).alloc (.cells #[.slice q1 q.length l1, .slice q2 o.length l2] 35)) w' → Calls Try.prog 22 #[.agg #[.slice a1 s1.length c1, .slice a2 i1.length d1]] w' _) := Lib.hid (fun w' hf => rmay_calls w' a1 a2 c1 d1 s1 i1 (h1.keep (hF.trans hf)) (h2.keep (hF.trans hf)))
  have HR2 : Hid (∀ w', Fr [] ((((w.alloc (.cells #[.slice a1 s1.length c1, .slice a2 i1.length d1] 26)).alloc (.cells #[.slice b1 s2.length c2, .slice b2 i2.length d2] 26)).alloc (.cells #[.slice p1 p.length k1, .slice p2 m.length k2] 35)).alloc (.cells #[.slice q1 q.length l1, .slice q2 o.length l2] 35)) w' → Calls Try.prog 22 #[.agg #[.slice b1 s2.length c2, .slice b2 i2.length d2]] w' _) := Lib.hid (fun w' hf => rmay_calls w' b1 b2 c2 d2 s2 i2 (h3.keep (hF.trans hf)) (h4.keep (hF.trans hf)))
  have HR3 : Hid (∀ w', Fr [] ((((w.alloc (.cells #[.slice a1 s1.length c1, .slice a2 i1.length d1] 26)).alloc (.cells #[.slice b1 s2.length c2, .slice b2 i2.length d2] 26)).alloc (.cells #[.slice p1 p.length k1, .slice p2 m.length k2] 35)).alloc (.cells #[.slice q1 q.length l1, .slice q2 o.length l2] 35)) w' → Calls Try.prog 22 #[.agg #[.slice p1 p.length k1, .slice p2 m.length k2]] w' _) := Lib.hid (fun w' hf => rmay_calls w' p1 p2 k1 k2 p m (h5.keep (hF.trans hf)) (h6.keep (hF.trans hf)))
  have HR4 : Hid (∀ w', Fr [] ((((w.alloc (.cells #[.slice a1 s1.length c1, .slice a2 i1.length d1] 26)).alloc (.cells #[.slice b1 s2.length c2, .slice b2 i2.length d2] 26)).alloc (.cells #[.slice p1 p.length k1, .slice p2 m.length k2] 35)).alloc (.cells #[.slice q1 q.length l1, .slice q2 o.length l2] 35)) w' → Calls Try.prog 22 #[.agg #[.slice q1 q.length l1, .slice q2 o.length l2]] w' _) := Lib.hid (fun w' hf => rmay_calls w' q1 q2 l1 l2 q o (h7.keep (hF.trans hf)) (h8.keep (hF.trans hf)))
  have HL1 : Hid (∀ w', Fr [] ((((w.alloc (.cells #[.slice a1 s1.length c1, .slice a2 i1.length d1] 26)).alloc (.cells #[.slice b1 s2.length c2, .slice b2 i2.length d2] 26)).alloc (.cells #[.slice p1 p.length k1, .slice p2 m.length k2] 35)).alloc (.cells #[.slice q1 q.length l1, .slice q2 o.length l2] 35)) w' → Calls Try.prog 10 #[.agg #[.slice a1 s1.length c1, .slice a2 i1.length d1]] w' _) := Lib.hid (fun w' hf => may_calls w' a1 a2 c1 d1 s1 i1 (h1.keep (hF.trans hf)) (h2.keep (hF.trans hf)))
  have HL2 : Hid (∀ w', Fr [] ((((w.alloc (.cells #[.slice a1 s1.length c1, .slice a2 i1.length d1] 26)).alloc (.cells #[.slice b1 s2.length c2, .slice b2 i2.length d2] 26)).alloc (.cells #[.slice p1 p.length k1, .slice p2 m.length k2] 35)).alloc (.cells #[.slice q1 q.length l1, .slice q2 o.length l2] 35)) w' → Calls Try.prog 10 #[.agg #[.slice b1 s2.length c2, .slice b2 i2.length d2]] w' _) := Lib.hid (fun w' hf => may_calls w' b1 b2 c2 d2 s2 i2 (h3.keep (hF.trans hf)) (h4.keep (hF.trans hf)))
  have HF := Lib.hid hF
  rw [m1] at HR1 HL1
  rw [m2] at HR2 HL2
  rw [m3] at HR3
  clear hF h1 h2 h3 h4 h5 h6 h7 h8 h9 m1 m2 m3
  generalize s1.length = n1 at *
  generalize i1.length = n2 at *
  generalize s2.length = n3 at *
  generalize i2.length = n4 at *
  generalize p.length = n5 at *
  generalize m.length = n6 at *
  generalize q.length = n7 at *
  generalize o.length = n8 at *
  generalize tt.length = n9 at *
  obtain ⟨W4, hW4⟩ : ∃ W4, ((((w.alloc (.cells #[.slice a1 n1 c1, .slice a2 n2 d1] 26)).alloc (.cells #[.slice b1 n3 c2, .slice b2 n4 d2] 26)).alloc (.cells #[.slice p1 n5 k1, .slice p2 n6 k2] 35)).alloc (.cells #[.slice q1 n7 l1, .slice q2 n8 l2] 35)) = W4 := ⟨_, rfl⟩
  rw [hW4] at HC HF HR1 HR2 HR3 HR4 HL1 HL2
  have HW4 := Lib.hid hW4
  clear hW4
  go_enter Try.func5, Try.ntmps5
  obtain ⟨⟨hx1, hx2⟩, ⟨hx3, hx4⟩, ⟨hx5, hx6⟩, hx7, hx8⟩ := HC.out W4 (Fr.refl _ _)
  rw [← HW4.out] at hx1 hx2 hx3 hx4 hx5 hx6 hx7 hx8
  go_wp2_with fail
  rw [HW4.out]
  clear HW4 hx1 hx2 hx3 hx4 hx5 hx6 hx7 hx8
  have HFW : Hid (Fr [] W4 W4) := Lib.hid (Fr.refl _ _)
  refine (HR1.out _ HFW.out).mono ?_
  rintro e w1 ⟨rfl, hf⟩
  have HFW' := Lib.hid (HFW.out.trans hf)
  clear hf HFW
  have HFW := HFW'
  clear HFW'
  obtain ⟨⟨hx1, hx2⟩, ⟨hx3, hx4⟩, ⟨hx5, hx6⟩, hx7, hx8⟩ := HC.out _ HFW.out
  go_wp2_with fail
  try clear hx1 hx2 hx3 hx4 hx5 hx6 hx7 hx8
  refine (HR2.out _ HFW.out).mono ?_
  rintro e w2 ⟨rfl, hf⟩
  have HFW' := Lib.hid (HFW.out.trans hf)
  clear hf HFW
  have HFW := HFW'
  clear HFW'
  obtain ⟨⟨hx1, hx2⟩, ⟨hx3, hx4⟩, ⟨hx5, hx6⟩, hx7, hx8⟩ := HC.out _ HFW.out
  go_wp2_with fail
  try clear hx1 hx2 hx3 hx4 hx5 hx6 hx7 hx8
  refine (HR3.out _ HFW.out).mono ?_
  rintro e w3 ⟨rfl, hf⟩
  have HFW' := Lib.hid (HFW.out.trans hf)
  clear hf HFW
  have HFW := HFW'
  clear HFW'
  obtain ⟨⟨hx1, hx2⟩, ⟨hx3, hx4⟩, ⟨hx5, hx6⟩, hx7, hx8⟩ := HC.out _ HFW.out
  go_wp2_with fail
  try clear hx1 hx2 hx3 hx4 hx5 hx6 hx7 hx8
  obtain ⟨⟨hx1, hx2⟩, ⟨hx3, hx4⟩, ⟨hx5, hx6⟩, hx7, hx8⟩ := HC.out _ HFW.out
  have q1 := cell_regrown hx1; have q2 := cell_regrown hx2; have q3 := cell_regrown hx3; have q4 := cell_regrown hx4
  clear hx1 hx2 hx3 hx4 hx5 hx6 hx7 hx8
  have ka := quiet_of_fr HFW.out HL1.out
  have kb := quiet_of_fr HFW.out HL2.out
  have ra := quiet_of_fr HFW.out HR1.out
  have rb' := quiet_of_fr HFW.out HR2.out
  have kw := quiet_of_fr HFW.out (fun w' _ => awake_calls w')
  refine wp_region_quiet_below (by kernel_rfl) (by kernel_rfl) ?_
  repeat (go_big_quiet_step (with_reducible (first | exact ka _ _ | exact kb _ _ | exact ra _ _ | exact rb' _ _ | exact kw _ _)))
  refine wpQuiet_nil ?_
  intro _ hw'
  obtain ⟨⟨dq, osq⟩, hw''⟩ := hw'
  subst hw''
  have HZ := Lib.hid ((HF.out.trans HFW.out).trans (fr_regrown _ dq osq))
  clear ka kb ra rb' kw q1 q2 q3 q4 HC HR1 HR2 HR3 HR4 HL1 HL2
  go_wp2_with fail
  go_ret
  exact ⟨rfl, HZ.out⟩
set_option maxRecDepth 100000 in
set_option maxHeartbeats 4000000 in
theorem asks_no4 (w : World) (a1 a2 b1 b2 p1 p2 q1 q2 t1 : Option Addr) (c1 d1 c2 d2 k1 k2 l1 l2 ct : Nat) (s1 i1 s2 i2 p m q o tt : List Int) (h1 : RdI w a1 c1 s1) (h2 : RdI w a2 d1 i1) (h3 : RdI w b1 c2 s2) (h4 : RdI w b2 d2 i2) (h5 : RdI w p1 k1 p) (h6 : RdI w p2 k2 m) (h7 : RdI w q1 l1 q) (h8 : RdI w q2 l2 o) (h9 : RdI w t1 ct tt) (m1 : (setB s1 && setB i1) = true) (m2 : (setB s2 && setB i2) = true) (m3 : (setB p && setB m) = true) (m4 : (setB q && setB o) = false) :
    Calls Try.prog 5 #[.agg #[.slice a1 s1.length c1, .slice a2 i1.length d1], .agg #[.slice b1 s2.length c2, .slice b2 i2.length d2], .agg #[.slice p1 p.length k1, .slice p2 m.length k2], .agg #[.slice q1 q.length l1, .slice q2 o.length l2], .slice t1 tt.length ct] w fun e w' => e = .returned (.bool true) ∧ Fr [] w w' := by
  have hF : Fr [] w ((((w.alloc (.cells #[.slice a1 s1.length c1, .slice a2 i1.length d1] 26)).alloc (.cells #[.slice b1 s2.length c2, .slice b2 i2.length d2] 26)).alloc (.cells #[.slice p1 p.length k1, .slice p2 m.length k2] 35)).alloc (.cells #[.slice q1 q.length l1, .slice q2 o.length l2] 35)) := ((((Fr.refl [] w).alloc _).alloc _).alloc _).alloc _
  have HC : Hid (∀ w', Fr [] ((((w.alloc (.cells #[.slice a1 s1.length c1, .slice a2 i1.length d1] 26)).alloc (.cells #[.slice b1 s2.length c2, .slice b2 i2.length d2] 26)).alloc (.cells #[.slice p1 p.length k1, .slice p2 m.length k2] 35)).alloc (.cells #[.slice q1 q.length l1, .slice q2 o.length l2] 35)) w' → (w'.cell? ⟨w.heap.size, 0, none⟩ = some (.slice a1 s1.length c1) ∧ w'.cell? ⟨w.heap.size, 1, none⟩ = some (.slice a2 i1.length d1)) ∧ (w'.cell? ⟨w.heap.size + 1, 0, none⟩ = some (.slice b1 s2.length c2) ∧ w'.cell? ⟨w.heap.size + 1, 1, none⟩ = some (.slice b2 i2.length d2)) ∧ (w'.cell? ⟨w.heap.size + 1 + 1, 0, none⟩ = some (.slice p1 p.length k1) ∧ w'.cell? ⟨w.heap.size + 1 + 1, 1, none⟩ = some (.slice p2 m.length k2)) ∧ (w'.cell? ⟨w.heap.size + 1 + 1 + 1, 0, none⟩ = some (.slice q1 q.length l1) ∧ w'.cell? ⟨w.heap.size + 1 + 1 + 1, 1, none⟩ = some (.slice q2 o.length l2))) := Lib.hid (fun w' hf => by
    obtain ⟨hb1, hb2, hb3, hb4⟩ := four_boxes hf
    exact ⟨⟨by rw [box_cell hb1]; rfl, by rw [box_cell hb1]; rfl⟩, ⟨by rw [box_cell hb2]; rfl, by rw [box_cell hb2]; rfl⟩, ⟨by rw [box_cell hb3]; rfl, by rw [box_cell hb3]; rfl⟩, by rw [box_cell hb4]; rfl, by rw [box_cell hb4]; rfl⟩)
  have HR1 : Hid (∀ w', Fr [] ((((w.alloc (.cells #[.slice a1 s1.length c1, .slice a2 i1.length d1] 26)).alloc (.cells #[.slice b1 s2.length c2, .slice b2 i2.length d2] 26)).alloc (.cells #[.slice p1 p.length k1, .slice p2 m.length k2] 35)).alloc (.cells #[.slice q1 q.length l1, .slice q2 o.length l2] 35)) w' → Calls Try.prog 22 #[.agg #[.slice a1 s1.length c1, .slice a2 i1.length d1]] w' _) := Lib.hid (fun w' hf => rmay_calls w' a1 a2 c1 d1 s1 i1 (h1.keep (hF.trans hf)) (h2.keep (hF.trans hf)))
  have HR2 : Hid (∀ w', Fr [] ((((w.alloc (.cells #[.slice a1 s1.length c1, .slice a2 i1.length d1] 26)).alloc (.cells #[.slice b1 s2.length c2, .slice b2 i2.length d2] 26)).alloc (.cells #[.slice p1 p.length k1, .slice p2 m.length k2] 35)).alloc (.cells #[.slice q1 q.length l1, .slice q2 o.length l2] 35)) w' → Calls Try.prog 22 #[.agg #[.slice b1 s2.length c2, .slice b2 i2.length d2]] w' _) := Lib.hid (fun w' hf => rmay_calls w' b1 b2 c2 d2 s2 i2 (h3.keep (hF.trans hf)) (h4.keep (hF.trans hf)))
  have HR3 : Hid (∀ w', Fr [] ((((w.alloc (.cells #[.slice a1 s1.length c1, .slice a2 i1.length d1] 26)).alloc (.cells #[.slice b1 s2.length c2, .slice b2 i2.length d2] 26)).alloc (.cells #[.slice p1 p.length k1, .slice p2 m.length k2] 35)).alloc (.cells #[.slice q1 q.length l1, .slice q2 o.length l2] 35)) w' → Calls Try.prog 22 #[.agg #[.slice p1 p.length k1, .slice p2 m.length k2]] w' _) := Lib.hid (fun w' hf => rmay_calls w' p1 p2 k1 k2 p m (h5.keep (hF.trans hf)) (h6.keep (hF.trans hf)))
  have HR4 : Hid (∀ w', Fr [] ((((w.alloc (.cells #[.slice a1 s1.length c1, .slice a2 i1.length d1] 26)).alloc (.cells #[.slice b1 s2.length c2, .slice b2 i2.length d2] 26)).alloc (.cells #[.slice p1 p.length k1, .slice p2 m.length k2] 35)).alloc (.cells #[.slice q1 q.length l1, .slice q2 o.length l2] 35)) w' → Calls Try.prog 22 #[.agg #[.slice q1 q.length l1, .slice q2 o.length l2]] w' _) := Lib.hid (fun w' hf => rmay_calls w' q1 q2 l1 l2 q o (h7.keep (hF.trans hf)) (h8.keep (hF.trans hf)))
  have HL1 : Hid (∀ w', Fr [] ((((w.alloc (.cells #[.slice a1 s1.length c1, .slice a2 i1.length d1] 26)).alloc (.cells #[.slice b1 s2.length c2, .slice b2 i2.length d2] 26)).alloc (.cells #[.slice p1 p.length k1, .slice p2 m.length k2] 35)).alloc (.cells #[.slice q1 q.length l1, .slice q2 o.length l2] 35)) w' → Calls Try.prog 10 #[.agg #[.slice a1 s1.length c1, .slice a2 i1.length d1]] w' _) := Lib.hid (fun w' hf => may_calls w' a1 a2 c1 d1 s1 i1 (h1.keep (hF.trans hf)) (h2.keep (hF.trans hf)))
  have HL2 : Hid (∀ w', Fr [] ((((w.alloc (.cells #[.slice a1 s1.length c1, .slice a2 i1.length d1] 26)).alloc (.cells #[.slice b1 s2.length c2, .slice b2 i2.length d2] 26)).alloc (.cells #[.slice p1 p.length k1, .slice p2 m.length k2] 35)).alloc (.cells #[.slice q1 q.length l1, .slice q2 o.length l2] 35)) w' → Calls Try.prog 10 #[.agg #[.slice b1 s2.length c2, .slice b2 i2.length d2]] w' _) := Lib.hid (fun w' hf => may_calls w' b1 b2 c2 d2 s2 i2 (h3.keep (hF.trans hf)) (h4.keep (hF.trans hf)))
  have HF := Lib.hid hF
  rw [m1] at HR1 HL1
  rw [m2] at HR2 HL2
  rw [m3] at HR3
  rw [m4] at HR4
  clear hF h1 h2 h3 h4 h5 h6 h7 h8 h9 m1 m2 m3 m4
  generalize s1.length = n1 at *
  generalize i1.length = n2 at *
  generalize s2.length = n3 at *
  generalize i2.length = n4 at *
  generalize p.length = n5 at *
  generalize m.length = n6 at *
  generalize q.length = n7 at *
  generalize o.length = n8 at *
  generalize tt.length = n9 at *
  obtain ⟨W4, hW4⟩ : ∃ W4, ((((w.alloc (.cells #[.slice a1 n1 c1, .slice a2 n2 d1] 26)).alloc (.cells #[.slice b1 n3 c2, .slice b2 n4 d2] 26)).alloc (.cells #[.slice p1 n5 k1, .slice p2 n6 k2] 35)).alloc (.cells #[.slice q1 n7 l1, .slice q2 n8 l2] 35)) = W4 := ⟨_, rfl⟩
  rw [hW4] at HC HF HR1 HR2 HR3 HR4 HL1 HL2
  have HW4 := Lib.hid hW4
  clear hW4
  go_enter Try.func5, Try.ntmps5
  obtain ⟨⟨hx1, hx2⟩, ⟨hx3, hx4⟩, ⟨hx5, hx6⟩, hx7, hx8⟩ := HC.out W4 (Fr.refl _ _)
  rw [← HW4.out] at hx1 hx2 hx3 hx4 hx5 hx6 hx7 hx8
  go_wp2_with fail
  rw [HW4.out]
  clear HW4 hx1 hx2 hx3 hx4 hx5 hx6 hx7 hx8
  have HFW : Hid (Fr [] W4 W4) := Lib.hid (Fr.refl _ _)
  refine (HR1.out _ HFW.out).mono ?_
  rintro e w1 ⟨rfl, hf⟩
  have HFW' := Lib.hid (HFW.out.trans hf)
  clear hf HFW
  have HFW := HFW'
  clear HFW'
  obtain ⟨⟨hx1, hx2⟩, ⟨hx3, hx4⟩, ⟨hx5, hx6⟩, hx7, hx8⟩ := HC.out _ HFW.out
  go_wp2_with fail
  try clear hx1 hx2 hx3 hx4 hx5 hx6 hx7 hx8
  refine (HR2.out _ HFW.out).mono ?_
  rintro e w2 ⟨rfl, hf⟩
  have HFW' := Lib.hid (HFW.out.trans hf)
  clear hf HFW
  have HFW := HFW'
  clear HFW'
  obtain ⟨⟨hx1, hx2⟩, ⟨hx3, hx4⟩, ⟨hx5, hx6⟩, hx7, hx8⟩ := HC.out _ HFW.out
  go_wp2_with fail
  try clear hx1 hx2 hx3 hx4 hx5 hx6 hx7 hx8
  refine (HR3.out _ HFW.out).mono ?_
  rintro e w3 ⟨rfl, hf⟩
  have HFW' := Lib.hid (HFW.out.trans hf)
  clear hf HFW
  have HFW := HFW'
  clear HFW'
  obtain ⟨⟨hx1, hx2⟩, ⟨hx3, hx4⟩, ⟨hx5, hx6⟩, hx7, hx8⟩ := HC.out _ HFW.out
  go_wp2_with fail
  try clear hx1 hx2 hx3 hx4 hx5 hx6 hx7 hx8
  refine (HR4.out _ HFW.out).mono ?_
  rintro e w4 ⟨rfl, hf⟩
  have HFW' := Lib.hid (HFW.out.trans hf)
  clear hf HFW
  have HFW := HFW'
  clear HFW'
  obtain ⟨⟨hx1, hx2⟩, ⟨hx3, hx4⟩, ⟨hx5, hx6⟩, hx7, hx8⟩ := HC.out _ HFW.out
  go_wp2_with fail
  try clear hx1 hx2 hx3 hx4 hx5 hx6 hx7 hx8
  obtain ⟨⟨hx1, hx2⟩, ⟨hx3, hx4⟩, ⟨hx5, hx6⟩, hx7, hx8⟩ := HC.out _ HFW.out
  have q1 := cell_regrown hx1; have q2 := cell_regrown hx2; have q3 := cell_regrown hx3; have q4 := cell_regrown hx4
  clear hx1 hx2 hx3 hx4 hx5 hx6 hx7 hx8
  have ka := quiet_of_fr HFW.out HL1.out
  have kb := quiet_of_fr HFW.out HL2.out
  have ra := quiet_of_fr HFW.out HR1.out
  have rb' := quiet_of_fr HFW.out HR2.out
  have kw := quiet_of_fr HFW.out (fun w' _ => awake_calls w')
  refine wp_region_quiet_below (by kernel_rfl) (by kernel_rfl) ?_
  repeat (go_big_quiet_step (with_reducible (first | exact ka _ _ | exact kb _ _ | exact ra _ _ | exact rb' _ _ | exact kw _ _)))
  refine wpQuiet_nil ?_
  intro _ hw'
  obtain ⟨⟨dq, osq⟩, hw''⟩ := hw'
  subst hw''
  have HZ := Lib.hid ((HF.out.trans HFW.out).trans (fr_regrown _ dq osq))
  clear ka kb ra rb' kw q1 q2 q3 q4 HC HR1 HR2 HR3 HR4 HL1 HL2
  go_wp2_with fail
  go_ret
  exact ⟨rfl, HZ.out⟩
end Go.Proofs.Ytdbhppfpalpfmaa
