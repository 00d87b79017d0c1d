/-
  LabelOrder: where a label may not be.
-/
import Derived.Test.YtdbhppfpalpfmaaLabA
import Derived.Deep.QuietTactic
import Derived.BigQuiet
import Derived.Lib.QuietBelow
namespace Go.Proofs.Ytdbhppfpalpfmaa
open Go.RowKit Go.MapKept
set_option maxRecDepth 100000 in
set_option maxHeartbeats 2000000 in
theorem order_no1 (w : World) (a1 a2 b1 b2 e1 e2 : Option Addr) (c1 d1 c2 d2 c3 d3 : Nat) (s1 i1 s2 i2 s3 i3 : List Int) (h1 : RdI w a1 c1 s1) (h2 : RdI w a2 d1 i1) (h3 : RdI w b1 c2 s2) (h4 : RdI w b2 d2 i2) (h5 : RdI w e1 c3 s3) (h6 : RdI w e2 d3 i3) (m1 : (setB s1 && setB i1) = false) :
    Calls Try.prog 7 #[.agg #[.slice a1 s1.length c1, .slice a2 i1.length d1], .agg #[.slice b1 s2.length c2, .slice b2 i2.length d2], .agg #[.slice e1 s3.length c3, .slice e2 i3.length d3]] w fun e w' => e = .returned (.bool true) ∧ Fr [] w w' := by
  have hF : Fr [] w (((w.alloc (.cells #[.slice a1 s1.length c1, .slice a2 i1.length d1] 26)).alloc (.cells #[.slice b1 s2.length c2, .slice b2 i2.length d2] 26)).alloc (.cells #[.slice e1 s3.length c3, .slice e2 i3.length d3] 26)) := (((Fr.refl [] w).alloc _).alloc _).alloc _
  have hc : ∀ w', Fr [] (((w.alloc (.cells #[.slice a1 s1.length c1, .slice a2 i1.length d1] 26)).alloc (.cells #[.slice b1 s2.length c2, .slice b2 i2.length d2] 26)).alloc (.cells #[.slice e1 s3.length c3, .slice e2 i3.length d3] 26)) w' → (w'.cell? ⟨w.heap.size, 0, none⟩ = some (.slice a1 s1.length c1) ∧ w'.cell? ⟨w.heap.size, 1, none⟩ = some (.slice a2 i1.length d1)) ∧ (w'.cell? ⟨w.heap.size + 1, 0, none⟩ = some (.slice b1 s2.length c2) ∧ w'.cell? ⟨w.heap.size + 1, 1, none⟩ = some (.slice b2 i2.length d2)) ∧ (w'.cell? ⟨w.heap.size + 1 + 1, 0, none⟩ = some (.slice e1 s3.length c3) ∧ w'.cell? ⟨w.heap.size + 1 + 1, 1, none⟩ = some (.slice e2 i3.length d3)) := fun w' hf => by
    obtain ⟨hb1, hb2, hb3⟩ := three_boxes hf
    exact ⟨⟨by rw [box_cell hb1]; rfl, by rw [box_cell hb1]; rfl⟩, ⟨by rw [box_cell hb2]; rfl, by rw [box_cell hb2]; rfl⟩, by rw [box_cell hb3]; rfl, by rw [box_cell hb3]; rfl⟩
  have hm1 : ∀ w', Fr [] (((w.alloc (.cells #[.slice a1 s1.length c1, .slice a2 i1.length d1] 26)).alloc (.cells #[.slice b1 s2.length c2, .slice b2 i2.length d2] 26)).alloc (.cells #[.slice e1 s3.length c3, .slice e2 i3.length d3] 26)) w' → Calls Try.prog 10 #[.agg #[.slice a1 s1.length c1, .slice a2 i1.length d1]] w' (fun e w'' => e = .returned (.bool (setB s1 && setB i1)) ∧ Fr [] w' w'') :=
    fun w' hf => may_calls w' a1 a2 c1 d1 s1 i1 (h1.keep (hF.trans hf)) (h2.keep (hF.trans hf))
  rw [m1] at hm1
  have HC := Lib.hid hc; have HFF := Lib.hid hF; have HM1 := Lib.hid hm1
  clear hF hc h1 h2 h3 h4 h5 h6 hm1 m1
  generalize s1.length = n1 at *
  generalize i1.length = n2 at *
  generalize s2.length = n3 at *
  generalize i2.length = n4 at *
  generalize s3.length = n5 at *
  generalize i3.length = n6 at *
  go_enter Try.func7, Try.ntmps7
  have HFW : Hid (Fr [] (((w.alloc (.cells #[.slice a1 n1 c1, .slice a2 n2 d1] 26)).alloc (.cells #[.slice b1 n3 c2, .slice b2 n4 d2] 26)).alloc (.cells #[.slice e1 n5 c3, .slice e2 n6 d3] 26)) _) := Lib.hid (Fr.refl [] _)
  obtain ⟨⟨hx1, hx2⟩, ⟨hx3, hx4⟩, hx5, hx6⟩ := HC.out _ HFW.out
  go_wp2_with fail
  refine (HM1.out _ HFW.out).mono ?_
  rintro e w1 ⟨rfl, hf⟩
  have HFW' := Lib.hid (HFW.out.trans hf)
  clear hf HFW hx1 hx2 hx3 hx4 hx5 hx6
  have HFW := HFW'
  clear HFW'
  obtain ⟨⟨hx1, hx2⟩, ⟨hx3, hx4⟩, hx5, hx6⟩ := HC.out _ HFW.out
  go_wp2_with fail
  refine (awake_calls _).mono ?_
  rintro e w9 ⟨rfl, hf⟩
  have HZ := Lib.hid (HFF.out.trans (HFW.out.trans hf))
  clear hf HFW hx1 hx2 hx3 hx4 hx5 hx6
  go_wp2_with fail
  go_ret
  exact ⟨rfl, HZ.out⟩
set_option maxRecDepth 100000 in
set_option maxHeartbeats 2000000 in
theorem order_no2 (w : World) (a1 a2 b1 b2 e1 e2 : Option Addr) (c1 d1 c2 d2 c3 d3 : Nat) (s1 i1 s2 i2 s3 i3 : List Int) (h1 : RdI w a1 c1 s1) (h2 : RdI w a2 d1 i1) (h3 : RdI w b1 c2 s2) (h4 : RdI w b2 d2 i2) (h5 : RdI w e1 c3 s3) (h6 : RdI w e2 d3 i3) (m1 : (setB s1 && setB i1) = true) (m2 : (setB s2 && setB i2) = false) :
    Calls Try.prog 7 #[.agg #[.slice a1 s1.length c1, .slice a2 i1.length d1], .agg #[.slice b1 s2.length c2, .slice b2 i2.length d2], .agg #[.slice e1 s3.length c3, .slice e2 i3.length d3]] w fun e w' => e = .returned (.bool true) ∧ Fr [] w w' := by
  have hF : Fr [] w (((w.alloc (.cells #[.slice a1 s1.length c1, .slice a2 i1.length d1] 26)).alloc (.cells #[.slice b1 s2.length c2, .slice b2 i2.length d2] 26)).alloc (.cells #[.slice e1 s3.length c3, .slice e2 i3.length d3] 26)) := (((Fr.refl [] w).alloc _).alloc _).alloc _
  have hc : ∀ w', Fr [] (((w.alloc (.cells #[.slice a1 s1.length c1, .slice a2 i1.length d1] 26)).alloc (.cells #[.slice b1 s2.length c2, .slice b2 i2.length d2] 26)).alloc (.cells #[.slice e1 s3.length c3, .slice e2 i3.length d3] 26)) w' → (w'.cell? ⟨w.heap.size, 0, none⟩ = some (.slice a1 s1.length c1) ∧ w'.cell? ⟨w.heap.size, 1, none⟩ = some (.slice a2 i1.length d1)) ∧ (w'.cell? ⟨w.heap.size + 1, 0, none⟩ = some (.slice b1 s2.length c2) ∧ w'.cell? ⟨w.heap.size + 1, 1, none⟩ = some (.slice b2 i2.length d2)) ∧ (w'.cell? ⟨w.heap.size + 1 + 1, 0, none⟩ = some (.slice e1 s3.length c3) ∧ w'.cell? ⟨w.heap.size + 1 + 1, 1, none⟩ = some (.slice e2 i3.length d3)) := fun w' hf => by
    obtain ⟨hb1, hb2, hb3⟩ := three_boxes hf
    exact ⟨⟨by rw [box_cell hb1]; rfl, by rw [box_cell hb1]; rfl⟩, ⟨by rw [box_cell hb2]; rfl, by rw [box_cell hb2]; rfl⟩, by rw [box_cell hb3]; rfl, by rw [box_cell hb3]; rfl⟩
  have hm1 : ∀ w', Fr [] (((w.alloc (.cells #[.slice a1 s1.length c1, .slice a2 i1.length d1] 26)).alloc (.cells #[.slice b1 s2.length c2, .slice b2 i2.length d2] 26)).alloc (.cells #[.slice e1 s3.length c3, .slice e2 i3.length d3] 26)) w' → Calls Try.prog 10 #[.agg #[.slice a1 s1.length c1, .slice a2 i1.length d1]] w' (fun e w'' => e = .returned (.bool (setB s1 && setB i1)) ∧ Fr [] w' w'') :=
    fun w' hf => may_calls w' a1 a2 c1 d1 s1 i1 (h1.keep (hF.trans hf)) (h2.keep (hF.trans hf))
  rw [m1] at hm1
  have hm2 : ∀ w', Fr [] (((w.alloc (.cells #[.slice a1 s1.length c1, .slice a2 i1.length d1] 26)).alloc (.cells #[.slice b1 s2.length c2, .slice b2 i2.length d2] 26)).alloc (.cells #[.slice e1 s3.length c3, .slice e2 i3.length d3] 26)) w' → Calls Try.prog 10 #[.agg #[.slice b1 s2.length c2, .slice b2 i2.length d2]] w' (fun e w'' => e = .returned (.bool (setB s2 && setB i2)) ∧ Fr [] w' w'') :=
    fun w' hf => may_calls w' b1 b2 c2 d2 s2 i2 (h3.keep (hF.trans hf)) (h4.keep (hF.trans hf))
  rw [m2] at hm2
  have HC := Lib.hid hc; have HFF := Lib.hid hF; have HM1 := Lib.hid hm1; have HM2 := Lib.hid hm2
  clear hF hc h1 h2 h3 h4 h5 h6 hm1 m1 hm2 m2
  generalize s1.length = n1 at *
  generalize i1.length = n2 at *
  generalize s2.length = n3 at *
  generalize i2.length = n4 at *
  generalize s3.length = n5 at *
  generalize i3.length = n6 at *
  go_enter Try.func7, Try.ntmps7
  have HFW : Hid (Fr [] (((w.alloc (.cells #[.slice a1 n1 c1, .slice a2 n2 d1] 26)).alloc (.cells #[.slice b1 n3 c2, .slice b2 n4 d2] 26)).alloc (.cells #[.slice e1 n5 c3, .slice e2 n6 d3] 26)) _) := Lib.hid (Fr.refl [] _)
  obtain ⟨⟨hx1, hx2⟩, ⟨hx3, hx4⟩, hx5, hx6⟩ := HC.out _ HFW.out
  go_wp2_with fail
  refine (HM1.out _ HFW.out).mono ?_
  rintro e w1 ⟨rfl, hf⟩
  have HFW' := Lib.hid (HFW.out.trans hf)
  clear hf HFW hx1 hx2 hx3 hx4 hx5 hx6
  have HFW := HFW'
  clear HFW'
  obtain ⟨⟨hx1, hx2⟩, ⟨hx3, hx4⟩, hx5, hx6⟩ := HC.out _ HFW.out
  go_wp2_with fail
  refine (HM2.out _ HFW.out).mono ?_
  rintro e w2 ⟨rfl, hf⟩
  have HFW' := Lib.hid (HFW.out.trans hf)
  clear hf HFW hx1 hx2 hx3 hx4 hx5 hx6
  have HFW := HFW'
  clear HFW'
  obtain ⟨⟨hx1, hx2⟩, ⟨hx3, hx4⟩, hx5, hx6⟩ := HC.out _ HFW.out
  go_wp2_with fail
  refine (awake_calls _).mono ?_
  rintro e w9 ⟨rfl, hf⟩
  have HZ := Lib.hid (HFF.out.trans (HFW.out.trans hf))
  clear hf HFW hx1 hx2 hx3 hx4 hx5 hx6
  go_wp2_with fail
  go_ret
  exact ⟨rfl, HZ.out⟩
set_option maxRecDepth 100000 in
set_option maxHeartbeats 2000000 in
theorem order_no3 (w : World) (a1 a2 b1 b2 e1 e2 : Option Addr) (c1 d1 c2 d2 c3 d3 : Nat) (s1 i1 s2 i2 s3 i3 : List Int) (h1 : RdI w a1 c1 s1) (h2 : RdI w a2 d1 i1) (h3 : RdI w b1 c2 s2) (h4 : RdI w b2 d2 i2) (h5 : RdI w e1 c3 s3) (h6 : RdI w e2 d3 i3) (m1 : (setB s1 && setB i1) = true) (m2 : (setB s2 && setB i2) = true) (m3 : (setB s3 && setB i3) = false) :
    Calls Try.prog 7 #[.agg #[.slice a1 s1.length c1, .slice a2 i1.length d1], .agg #[.slice b1 s2.length c2, .slice b2 i2.length d2], .agg #[.slice e1 s3.length c3, .slice e2 i3.length d3]] w fun e w' => e = .returned (.bool true) ∧ Fr [] w w' := by
  have hF : Fr [] w (((w.alloc (.cells #[.slice a1 s1.length c1, .slice a2 i1.length d1] 26)).alloc (.cells #[.slice b1 s2.length c2, .slice b2 i2.length d2] 26)).alloc (.cells #[.slice e1 s3.length c3, .slice e2 i3.length d3] 26)) := (((Fr.refl [] w).alloc _).alloc _).alloc _
  have hc : ∀ w', Fr [] (((w.alloc (.cells #[.slice a1 s1.length c1, .slice a2 i1.length d1] 26)).alloc (.cells #[.slice b1 s2.length c2, .slice b2 i2.length d2] 26)).alloc (.cells #[.slice e1 s3.length c3, .slice e2 i3.length d3] 26)) w' → (w'.cell? ⟨w.heap.size, 0, none⟩ = some (.slice a1 s1.length c1) ∧ w'.cell? ⟨w.heap.size, 1, none⟩ = some (.slice a2 i1.length d1)) ∧ (w'.cell? ⟨w.heap.size + 1, 0, none⟩ = some (.slice b1 s2.length c2) ∧ w'.cell? ⟨w.heap.size + 1, 1, none⟩ = some (.slice b2 i2.length d2)) ∧ (w'.cell? ⟨w.heap.size + 1 + 1, 0, none⟩ = some (.slice e1 s3.length c3) ∧ w'.cell? ⟨w.heap.size + 1 + 1, 1, none⟩ = some (.slice e2 i3.length d3)) := fun w' hf => by
    obtain ⟨hb1, hb2, hb3⟩ := three_boxes hf
    exact ⟨⟨by rw [box_cell hb1]; rfl, by rw [box_cell hb1]; rfl⟩, ⟨by rw [box_cell hb2]; rfl, by rw [box_cell hb2]; rfl⟩, by rw [box_cell hb3]; rfl, by rw [box_cell hb3]; rfl⟩
  have hm1 : ∀ w', Fr [] (((w.alloc (.cells #[.slice a1 s1.length c1, .slice a2 i1.length d1] 26)).alloc (.cells #[.slice b1 s2.length c2, .slice b2 i2.length d2] 26)).alloc (.cells #[.slice e1 s3.length c3, .slice e2 i3.length d3] 26)) w' → Calls Try.prog 10 #[.agg #[.slice a1 s1.length c1, .slice a2 i1.length d1]] w' (fun e w'' => e = .returned (.bool (setB s1 && setB i1)) ∧ Fr [] w' w'') :=
    fun w' hf => may_calls w' a1 a2 c1 d1 s1 i1 (h1.keep (hF.trans hf)) (h2.keep (hF.trans hf))
  rw [m1] at hm1
  have hm2 : ∀ w', Fr [] (((w.alloc (.cells #[.slice a1 s1.length c1, .slice a2 i1.length d1] 26)).alloc (.cells #[.slice b1 s2.length c2, .slice b2 i2.length d2] 26)).alloc (.cells #[.slice e1 s3.length c3, .slice e2 i3.length d3] 26)) w' → Calls Try.prog 10 #[.agg #[.slice b1 s2.length c2, .slice b2 i2.length d2]] w' (fun e w'' => e = .returned (.bool (setB s2 && setB i2)) ∧ Fr [] w' w'') :=
    fun w' hf => may_calls w' b1 b2 c2 d2 s2 i2 (h3.keep (hF.trans hf)) (h4.keep (hF.trans hf))
  rw [m2] at hm2
  have hm3 : ∀ w', Fr [] (((w.alloc (.cells #[.slice a1 s1.length c1, .slice a2 i1.length d1] 26)).alloc (.cells #[.slice b1 s2.length c2, .slice b2 i2.length d2] 26)).alloc (.cells #[.slice e1 s3.length c3, .slice e2 i3.length d3] 26)) w' → Calls Try.prog 10 #[.agg #[.slice e1 s3.length c3, .slice e2 i3.length d3]] w' (fun e w'' => e = .returned (.bool (setB s3 && setB i3)) ∧ Fr [] w' w'') :=
    fun w' hf => may_calls w' e1 e2 c3 d3 s3 i3 (h5.keep (hF.trans hf)) (h6.keep (hF.trans hf))
  rw [m3] at hm3
  have HC := Lib.hid hc; have HFF := Lib.hid hF; have HM1 := Lib.hid hm1; have HM2 := Lib.hid hm2; have HM3 := Lib.hid hm3
  clear hF hc h1 h2 h3 h4 h5 h6 hm1 m1 hm2 m2 hm3 m3
  generalize s1.length = n1 at *
  generalize i1.length = n2 at *
  generalize s2.length = n3 at *
  generalize i2.length = n4 at *
  generalize s3.length = n5 at *
  generalize i3.length = n6 at *
  go_enter Try.func7, Try.ntmps7
  have HFW : Hid (Fr [] (((w.alloc (.cells #[.slice a1 n1 c1, .slice a2 n2 d1] 26)).alloc (.cells #[.slice b1 n3 c2, .slice b2 n4 d2] 26)).alloc (.cells #[.slice e1 n5 c3, .slice e2 n6 d3] 26)) _) := Lib.hid (Fr.refl [] _)
  obtain ⟨⟨hx1, hx2⟩, ⟨hx3, hx4⟩, hx5, hx6⟩ := HC.out _ HFW.out
  go_wp2_with fail
  refine (HM1.out _ HFW.out).mono ?_
  rintro e w1 ⟨rfl, hf⟩
  have HFW' := Lib.hid (HFW.out.trans hf)
  clear hf HFW hx1 hx2 hx3 hx4 hx5 hx6
  have HFW := HFW'
  clear HFW'
  obtain ⟨⟨hx1, hx2⟩, ⟨hx3, hx4⟩, hx5, hx6⟩ := HC.out _ HFW.out
  go_wp2_with fail
  refine (HM2.out _ HFW.out).mono ?_
  rintro e w2 ⟨rfl, hf⟩
  have HFW' := Lib.hid (HFW.out.trans hf)
  clear hf HFW hx1 hx2 hx3 hx4 hx5 hx6
  have HFW := HFW'
  clear HFW'
  obtain ⟨⟨hx1, hx2⟩, ⟨hx3, hx4⟩, hx5, hx6⟩ := HC.out _ HFW.out
  go_wp2_with fail
  refine (HM3.out _ HFW.out).mono ?_
  rintro e w3 ⟨rfl, hf⟩
  have HFW' := Lib.hid (HFW.out.trans hf)
  clear hf HFW hx1 hx2 hx3 hx4 hx5 hx6
  have HFW := HFW'
  clear HFW'
  obtain ⟨⟨hx1, hx2⟩, ⟨hx3, hx4⟩, hx5, hx6⟩ := HC.out _ HFW.out
  go_wp2_with fail
  refine (awake_calls _).mono ?_
  rintro e w9 ⟨rfl, hf⟩
  have HZ := Lib.hid (HFF.out.trans (HFW.out.trans hf))
  clear hf HFW hx1 hx2 hx3 hx4 hx5 hx6
  go_wp2_with fail
  go_ret
  exact ⟨rfl, HZ.out⟩
end Go.Proofs.Ytdbhppfpalpfmaa
