/-
  LabelBack: where one of them may not be.
-/
import Derived.Test.YtdbhppfpalpfmaaLabT
import Derived.Test.YtdbhppfpalpfmaaLabZ
import Derived.Deep.DeepCutAuto
namespace Go.Proofs.Ytdbhppfpalpfmaa
open Go.RowKit Go.MapKept
theorem four_boxes {w : World} {x y z u : Array Value} {T U V S : TypeId} {w' : World} (hf : Fr [] ((((w.alloc (.cells x T)).alloc (.cells y U)).alloc (.cells z V)).alloc (.cells u S)) w') :
    w'.heap[w.heap.size]? = some (.cells x T (0, 0)) ∧ w'.heap[w.heap.size + 1]? = some (.cells y U (0, 0)) ∧ w'.heap[w.heap.size + 1 + 1]? = some (.cells z V (0, 0)) ∧ w'.heap[w.heap.size + 1 + 1 + 1]? = some (.cells u S (0, 0)) := by
  obtain ⟨h1, h2, h3⟩ := three_boxes (((Fr.refl [] _).alloc _).trans hf)
  refine ⟨h1, h2, h3, hf.keep ?_ (by simp)⟩
  have := heap_alloc_last (((w.alloc (.cells x T)).alloc (.cells y U)).alloc (.cells z V)) (.cells u S)
  simpa only [World.size_alloc] using this
theorem set_fr (w : World) (ad : Option Addr) (cap : Nat) (zs : List Int) (h : RdI w ad cap zs) : Calls Try.prog 9 #[.slice ad zs.length cap] w fun e w' => e = .returned (.bool (setB zs)) ∧ Fr [] w w' :=
  (set_calls w ad cap zs h).mono fun e w' ⟨he, hw⟩ => ⟨he, by rw [← hw]; exact Fr.refl [] w⟩
set_option maxRecDepth 100000 in
set_option maxHeartbeats 2000000 in
theorem back_no1 (w : World) (fa fb ta tb ap am bp bm : Option Addr) (fc fd tc td cp cm dp dm : Nat) (fs fi ts ti p m q o : List Int) (h1 : RdI w fa fc fs) (h2 : RdI w fb fd fi) (h3 : RdI w ta tc ts) (h4 : RdI w tb td ti) (h5 : RdI w ap cp p) (h6 : RdI w am cm m) (h7 : RdI w bp dp q) (h8 : RdI w bm dm o) (m1 : (setB fs && setB fi) = false) :
    Calls Try.prog 8 #[.agg #[.slice fa fs.length fc, .slice fb fi.length fd], .agg #[.slice ta ts.length tc, .slice tb ti.length td], .agg #[.slice ap p.length cp, .slice am m.length cm], .agg #[.slice bp q.length dp, .slice bm o.length dm]] w fun e w' => e = .returned (.bool true) ∧ Fr [] w w' := by
  have hF : Fr [] w ((((w.alloc (.cells #[.slice fa fs.length fc, .slice fb fi.length fd] 26)).alloc (.cells #[.slice ta ts.length tc, .slice tb ti.length td] 26)).alloc (.cells #[.slice ap p.length cp, .slice am m.length cm] 35)).alloc (.cells #[.slice bp q.length dp, .slice bm o.length dm] 35)) := ((((Fr.refl [] w).alloc _).alloc _).alloc _).alloc _
  have hc : ∀ w', Fr [] ((((w.alloc (.cells #[.slice fa fs.length fc, .slice fb fi.length fd] 26)).alloc (.cells #[.slice ta ts.length tc, .slice tb ti.length td] 26)).alloc (.cells #[.slice ap p.length cp, .slice am m.length cm] 35)).alloc (.cells #[.slice bp q.length dp, .slice bm o.length dm] 35)) w' → (w'.cell? ⟨w.heap.size, 0, none⟩ = some (.slice fa fs.length fc) ∧ w'.cell? ⟨w.heap.size, 1, none⟩ = some (.slice fb fi.length fd)) ∧ (w'.cell? ⟨w.heap.size + 1, 0, none⟩ = some (.slice ta ts.length tc) ∧ w'.cell? ⟨w.heap.size + 1, 1, none⟩ = some (.slice tb ti.length td)) ∧ (w'.cell? ⟨w.heap.size + 1 + 1, 0, none⟩ = some (.slice ap p.length cp) ∧ w'.cell? ⟨w.heap.size + 1 + 1, 1, none⟩ = some (.slice am m.length cm)) ∧ (w'.cell? ⟨w.heap.size + 1 + 1 + 1, 0, none⟩ = some (.slice bp q.length dp) ∧ w'.cell? ⟨w.heap.size + 1 + 1 + 1, 1, none⟩ = some (.slice bm o.length dm)) := fun w' hf => by
    obtain ⟨e1, e2, e3, e4⟩ := four_boxes hf
    exact ⟨⟨by rw [box_cell e1]; rfl, by rw [box_cell e1]; rfl⟩, ⟨by rw [box_cell e2]; rfl, by rw [box_cell e2]; rfl⟩, ⟨by rw [box_cell e3]; rfl, by rw [box_cell e3]; rfl⟩, by rw [box_cell e4]; rfl, by rw [box_cell e4]; rfl⟩
  have k1 : ∀ w', Fr [] ((((w.alloc (.cells #[.slice fa fs.length fc, .slice fb fi.length fd] 26)).alloc (.cells #[.slice ta ts.length tc, .slice tb ti.length td] 26)).alloc (.cells #[.slice ap p.length cp, .slice am m.length cm] 35)).alloc (.cells #[.slice bp q.length dp, .slice bm o.length dm] 35)) w' → Calls Try.prog 10 #[.agg #[.slice fa fs.length fc, .slice fb fi.length fd]] w' (fun e w'' => e = .returned (.bool (setB fs && setB fi)) ∧ Fr [] w' w'') := fun w' hf => may_calls w' fa fb fc fd fs fi (h1.keep (hF.trans hf)) (h2.keep (hF.trans hf))
  rw [m1] at k1
  have HC := Lib.hid hc; have HFF := Lib.hid hF; have K1 := Lib.hid k1
  clear hF hc h1 h2 h3 h4 h5 h6 h7 h8 k1 m1
  generalize fs.length = n1 at *
  generalize fi.length = n2 at *
  generalize ts.length = n3 at *
  generalize ti.length = n4 at *
  generalize p.length = n5 at *
  generalize m.length = n6 at *
  generalize q.length = n7 at *
  generalize o.length = n8 at *
  go_enter Try.func8, Try.ntmps8
  have HFW : Hid (Fr [] ((((w.alloc (.cells #[.slice fa n1 fc, .slice fb n2 fd] 26)).alloc (.cells #[.slice ta n3 tc, .slice tb n4 td] 26)).alloc (.cells #[.slice ap n5 cp, .slice am n6 cm] 35)).alloc (.cells #[.slice bp n7 dp, .slice bm n8 dm] 35)) _) := Lib.hid (Fr.refl [] _)
  obtain ⟨⟨hx1, hx2⟩, ⟨hx3, hx4⟩, ⟨hx5, hx6⟩, hx7, hx8⟩ := HC.out _ HFW.out
  go_wp2_with fail
  refine (K1.out _ HFW.out).mono ?_
  rintro e wq ⟨rfl, hf⟩
  have HFW' := Lib.hid (HFW.out.trans hf)
  clear hf HFW hx1 hx2 hx3 hx4 hx5 hx6 hx7 hx8
  have HFW := HFW'
  clear HFW'
  obtain ⟨⟨hx1, hx2⟩, ⟨hx3, hx4⟩, ⟨hx5, hx6⟩, hx7, hx8⟩ := HC.out _ HFW.out
  go_wp2_with fail
  refine (awake_calls _).mono ?_
  rintro e w9 ⟨rfl, hf⟩
  have HZ := Lib.hid (HFF.out.trans (HFW.out.trans hf))
  clear hf HFW hx1 hx2 hx3 hx4 hx5 hx6 hx7 hx8
  go_wp2_with fail
  go_ret
  exact ⟨rfl, HZ.out⟩
set_option maxRecDepth 100000 in
set_option maxHeartbeats 2000000 in
theorem back_no2 (w : World) (fa fb ta tb ap am bp bm : Option Addr) (fc fd tc td cp cm dp dm : Nat) (fs fi ts ti p m q o : List Int) (h1 : RdI w fa fc fs) (h2 : RdI w fb fd fi) (h3 : RdI w ta tc ts) (h4 : RdI w tb td ti) (h5 : RdI w ap cp p) (h6 : RdI w am cm m) (h7 : RdI w bp dp q) (h8 : RdI w bm dm o) (m1 : (setB fs && setB fi) = true) (m2 : (setB ts && setB ti) = false) :
    Calls Try.prog 8 #[.agg #[.slice fa fs.length fc, .slice fb fi.length fd], .agg #[.slice ta ts.length tc, .slice tb ti.length td], .agg #[.slice ap p.length cp, .slice am m.length cm], .agg #[.slice bp q.length dp, .slice bm o.length dm]] w fun e w' => e = .returned (.bool true) ∧ Fr [] w w' := by
  have hF : Fr [] w ((((w.alloc (.cells #[.slice fa fs.length fc, .slice fb fi.length fd] 26)).alloc (.cells #[.slice ta ts.length tc, .slice tb ti.length td] 26)).alloc (.cells #[.slice ap p.length cp, .slice am m.length cm] 35)).alloc (.cells #[.slice bp q.length dp, .slice bm o.length dm] 35)) := ((((Fr.refl [] w).alloc _).alloc _).alloc _).alloc _
  have hc : ∀ w', Fr [] ((((w.alloc (.cells #[.slice fa fs.length fc, .slice fb fi.length fd] 26)).alloc (.cells #[.slice ta ts.length tc, .slice tb ti.length td] 26)).alloc (.cells #[.slice ap p.length cp, .slice am m.length cm] 35)).alloc (.cells #[.slice bp q.length dp, .slice bm o.length dm] 35)) w' → (w'.cell? ⟨w.heap.size, 0, none⟩ = some (.slice fa fs.length fc) ∧ w'.cell? ⟨w.heap.size, 1, none⟩ = some (.slice fb fi.length fd)) ∧ (w'.cell? ⟨w.heap.size + 1, 0, none⟩ = some (.slice ta ts.length tc) ∧ w'.cell? ⟨w.heap.size + 1, 1, none⟩ = some (.slice tb ti.length td)) ∧ (w'.cell? ⟨w.heap.size + 1 + 1, 0, none⟩ = some (.slice ap p.length cp) ∧ w'.cell? ⟨w.heap.size + 1 + 1, 1, none⟩ = some (.slice am m.length cm)) ∧ (w'.cell? ⟨w.heap.size + 1 + 1 + 1, 0, none⟩ = some (.slice bp q.length dp) ∧ w'.cell? ⟨w.heap.size + 1 + 1 + 1, 1, none⟩ = some (.slice bm o.length dm)) := fun w' hf => by
    obtain ⟨e1, e2, e3, e4⟩ := four_boxes hf
    exact ⟨⟨by rw [box_cell e1]; rfl, by rw [box_cell e1]; rfl⟩, ⟨by rw [box_cell e2]; rfl, by rw [box_cell e2]; rfl⟩, ⟨by rw [box_cell e3]; rfl, by rw [box_cell e3]; rfl⟩, by rw [box_cell e4]; rfl, by rw [box_cell e4]; rfl⟩
  have k1 : ∀ w', Fr [] ((((w.alloc (.cells #[.slice fa fs.length fc, .slice fb fi.length fd] 26)).alloc (.cells #[.slice ta ts.length tc, .slice tb ti.length td] 26)).alloc (.cells #[.slice ap p.length cp, .slice am m.length cm] 35)).alloc (.cells #[.slice bp q.length dp, .slice bm o.length dm] 35)) w' → Calls Try.prog 10 #[.agg #[.slice fa fs.length fc, .slice fb fi.length fd]] w' (fun e w'' => e = .returned (.bool (setB fs && setB fi)) ∧ Fr [] w' w'') := fun w' hf => may_calls w' fa fb fc fd fs fi (h1.keep (hF.trans hf)) (h2.keep (hF.trans hf))
  rw [m1] at k1
  have k2 : ∀ w', Fr [] ((((w.alloc (.cells #[.slice fa fs.length fc, .slice fb fi.length fd] 26)).alloc (.cells #[.slice ta ts.length tc, .slice tb ti.length td] 26)).alloc (.cells #[.slice ap p.length cp, .slice am m.length cm] 35)).alloc (.cells #[.slice bp q.length dp, .slice bm o.length dm] 35)) w' → Calls Try.prog 10 #[.agg #[.slice ta ts.length tc, .slice tb ti.length td]] w' (fun e w'' => e = .returned (.bool (setB ts && setB ti)) ∧ Fr [] w' w'') := fun w' hf => may_calls w' ta tb tc td ts ti (h3.keep (hF.trans hf)) (h4.keep (hF.trans hf))
  rw [m2] at k2
  have HC := Lib.hid hc; have HFF := Lib.hid hF; have K1 := Lib.hid k1; have K2 := Lib.hid k2
  clear hF hc h1 h2 h3 h4 h5 h6 h7 h8 k1 m1 k2 m2
  generalize fs.length = n1 at *
  generalize fi.length = n2 at *
  generalize ts.length = n3 at *
  generalize ti.length = n4 at *
  generalize p.length = n5 at *
  generalize m.length = n6 at *
  generalize q.length = n7 at *
  generalize o.length = n8 at *
  go_enter Try.func8, Try.ntmps8
  have HFW : Hid (Fr [] ((((w.alloc (.cells #[.slice fa n1 fc, .slice fb n2 fd] 26)).alloc (.cells #[.slice ta n3 tc, .slice tb n4 td] 26)).alloc (.cells #[.slice ap n5 cp, .slice am n6 cm] 35)).alloc (.cells #[.slice bp n7 dp, .slice bm n8 dm] 35)) _) := Lib.hid (Fr.refl [] _)
  obtain ⟨⟨hx1, hx2⟩, ⟨hx3, hx4⟩, ⟨hx5, hx6⟩, hx7, hx8⟩ := HC.out _ HFW.out
  go_wp2_with fail
  refine (K1.out _ HFW.out).mono ?_
  rintro e wq ⟨rfl, hf⟩
  have HFW' := Lib.hid (HFW.out.trans hf)
  clear hf HFW hx1 hx2 hx3 hx4 hx5 hx6 hx7 hx8
  have HFW := HFW'
  clear HFW'
  obtain ⟨⟨hx1, hx2⟩, ⟨hx3, hx4⟩, ⟨hx5, hx6⟩, hx7, hx8⟩ := HC.out _ HFW.out
  go_wp2_with fail
  refine (K2.out _ HFW.out).mono ?_
  rintro e wq ⟨rfl, hf⟩
  have HFW' := Lib.hid (HFW.out.trans hf)
  clear hf HFW hx1 hx2 hx3 hx4 hx5 hx6 hx7 hx8
  have HFW := HFW'
  clear HFW'
  obtain ⟨⟨hx1, hx2⟩, ⟨hx3, hx4⟩, ⟨hx5, hx6⟩, hx7, hx8⟩ := HC.out _ HFW.out
  go_wp2_with fail
  refine (awake_calls _).mono ?_
  rintro e w9 ⟨rfl, hf⟩
  have HZ := Lib.hid (HFF.out.trans (HFW.out.trans hf))
  clear hf HFW hx1 hx2 hx3 hx4 hx5 hx6 hx7 hx8
  go_wp2_with fail
  go_ret
  exact ⟨rfl, HZ.out⟩
set_option maxRecDepth 100000 in
set_option maxHeartbeats 2000000 in
theorem back_no3 (w : World) (fa fb ta tb ap am bp bm : Option Addr) (fc fd tc td cp cm dp dm : Nat) (fs fi ts ti p m q o : List Int) (h1 : RdI w fa fc fs) (h2 : RdI w fb fd fi) (h3 : RdI w ta tc ts) (h4 : RdI w tb td ti) (h5 : RdI w ap cp p) (h6 : RdI w am cm m) (h7 : RdI w bp dp q) (h8 : RdI w bm dm o) (m1 : (setB fs && setB fi) = true) (m2 : (setB ts && setB ti) = true) (m3 : (setB p) = false) :
    Calls Try.prog 8 #[.agg #[.slice fa fs.length fc, .slice fb fi.length fd], .agg #[.slice ta ts.length tc, .slice tb ti.length td], .agg #[.slice ap p.length cp, .slice am m.length cm], .agg #[.slice bp q.length dp, .slice bm o.length dm]] w fun e w' => e = .returned (.bool true) ∧ Fr [] w w' := by
  have hF : Fr [] w ((((w.alloc (.cells #[.slice fa fs.length fc, .slice fb fi.length fd] 26)).alloc (.cells #[.slice ta ts.length tc, .slice tb ti.length td] 26)).alloc (.cells #[.slice ap p.length cp, .slice am m.length cm] 35)).alloc (.cells #[.slice bp q.length dp, .slice bm o.length dm] 35)) := ((((Fr.refl [] w).alloc _).alloc _).alloc _).alloc _
  have hc : ∀ w', Fr [] ((((w.alloc (.cells #[.slice fa fs.length fc, .slice fb fi.length fd] 26)).alloc (.cells #[.slice ta ts.length tc, .slice tb ti.length td] 26)).alloc (.cells #[.slice ap p.length cp, .slice am m.length cm] 35)).alloc (.cells #[.slice bp q.length dp, .slice bm o.length dm] 35)) w' → (w'.cell? ⟨w.heap.size, 0, none⟩ = some (.slice fa fs.length fc) ∧ w'.cell? ⟨w.heap.size, 1, none⟩ = some (.slice fb fi.length fd)) ∧ (w'.cell? ⟨w.heap.size + 1, 0, none⟩ = some (.slice ta ts.length tc) ∧ w'.cell? ⟨w.heap.size + 1, 1, none⟩ = some (.slice tb ti.length td)) ∧ (w'.cell? ⟨w.heap.size + 1 + 1, 0, none⟩ = some (.slice ap p.length cp) ∧ w'.cell? ⟨w.heap.size + 1 + 1, 1, none⟩ = some (.slice am m.length cm)) ∧ (w'.cell? ⟨w.heap.size + 1 + 1 + 1, 0, none⟩ = some (.slice bp q.length dp) ∧ w'.cell? ⟨w.heap.size + 1 + 1 + 1, 1, none⟩ = some (.slice bm o.length dm)) := fun w' hf => by
    obtain ⟨e1, e2, e3, e4⟩ := four_boxes hf
    exact ⟨⟨by rw [box_cell e1]; rfl, by rw [box_cell e1]; rfl⟩, ⟨by rw [box_cell e2]; rfl, by rw [box_cell e2]; rfl⟩, ⟨by rw [box_cell e3]; rfl, by rw [box_cell e3]; rfl⟩, by rw [box_cell e4]; rfl, by rw [box_cell e4]; rfl⟩
  have k1 : ∀ w', Fr [] ((((w.alloc (.cells #[.slice fa fs.length fc, .slice fb fi.length fd] 26)).alloc (.cells #[.slice ta ts.length tc, .slice tb ti.length td] 26)).alloc (.cells #[.slice ap p.length cp, .slice am m.length cm] 35)).alloc (.cells #[.slice bp q.length dp, .slice bm o.length dm] 35)) w' → Calls Try.prog 10 #[.agg #[.slice fa fs.length fc, .slice fb fi.length fd]] w' (fun e w'' => e = .returned (.bool (setB fs && setB fi)) ∧ Fr [] w' w'') := fun w' hf => may_calls w' fa fb fc fd fs fi (h1.keep (hF.trans hf)) (h2.keep (hF.trans hf))
  rw [m1] at k1
  have k2 : ∀ w', Fr [] ((((w.alloc (.cells #[.slice fa fs.length fc, .slice fb fi.length fd] 26)).alloc (.cells #[.slice ta ts.length tc, .slice tb ti.length td] 26)).alloc (.cells #[.slice ap p.length cp, .slice am m.length cm] 35)).alloc (.cells #[.slice bp q.length dp, .slice bm o.length dm] 35)) w' → Calls Try.prog 10 #[.agg #[.slice ta ts.length tc, .slice tb ti.length td]] w' (fun e w'' => e = .returned (.bool (setB ts && setB ti)) ∧ Fr [] w' w'') := fun w' hf => may_calls w' ta tb tc td ts ti (h3.keep (hF.trans hf)) (h4.keep (hF.trans hf))
  rw [m2] at k2
  have k3 : ∀ w', Fr [] ((((w.alloc (.cells #[.slice fa fs.length fc, .slice fb fi.length fd] 26)).alloc (.cells #[.slice ta ts.length tc, .slice tb ti.length td] 26)).alloc (.cells #[.slice ap p.length cp, .slice am m.length cm] 35)).alloc (.cells #[.slice bp q.length dp, .slice bm o.length dm] 35)) w' → Calls Try.prog 9 #[.slice ap p.length cp] w' (fun e w'' => e = .returned (.bool (setB p)) ∧ Fr [] w' w'') := fun w' hf => set_fr w' ap cp p (h5.keep (hF.trans hf))
  rw [m3] at k3
  have HC := Lib.hid hc; have HFF := Lib.hid hF; have K1 := Lib.hid k1; have K2 := Lib.hid k2; have K3 := Lib.hid k3
  clear hF hc h1 h2 h3 h4 h5 h6 h7 h8 k1 m1 k2 m2 k3 m3
  generalize fs.length = n1 at *
  generalize fi.length = n2 at *
  generalize ts.length = n3 at *
  generalize ti.length = n4 at *
  generalize p.length = n5 at *
  generalize m.length = n6 at *
  generalize q.length = n7 at *
  generalize o.length = n8 at *
  go_enter Try.func8, Try.ntmps8
  have HFW : Hid (Fr [] ((((w.alloc (.cells #[.slice fa n1 fc, .slice fb n2 fd] 26)).alloc (.cells #[.slice ta n3 tc, .slice tb n4 td] 26)).alloc (.cells #[.slice ap n5 cp, .slice am n6 cm] 35)).alloc (.cells #[.slice bp n7 dp, .slice bm n8 dm] 35)) _) := Lib.hid (Fr.refl [] _)
  obtain ⟨⟨hx1, hx2⟩, ⟨hx3, hx4⟩, ⟨hx5, hx6⟩, hx7, hx8⟩ := HC.out _ HFW.out
  go_wp2_with fail
  refine (K1.out _ HFW.out).mono ?_
  rintro e wq ⟨rfl, hf⟩
  have HFW' := Lib.hid (HFW.out.trans hf)
  clear hf HFW hx1 hx2 hx3 hx4 hx5 hx6 hx7 hx8
  have HFW := HFW'
  clear HFW'
  obtain ⟨⟨hx1, hx2⟩, ⟨hx3, hx4⟩, ⟨hx5, hx6⟩, hx7, hx8⟩ := HC.out _ HFW.out
  go_wp2_with fail
  refine (K2.out _ HFW.out).mono ?_
  rintro e wq ⟨rfl, hf⟩
  have HFW' := Lib.hid (HFW.out.trans hf)
  clear hf HFW hx1 hx2 hx3 hx4 hx5 hx6 hx7 hx8
  have HFW := HFW'
  clear HFW'
  obtain ⟨⟨hx1, hx2⟩, ⟨hx3, hx4⟩, ⟨hx5, hx6⟩, hx7, hx8⟩ := HC.out _ HFW.out
  go_wp2_with fail
  refine (K3.out _ HFW.out).mono ?_
  rintro e wq ⟨rfl, hf⟩
  have HFW' := Lib.hid (HFW.out.trans hf)
  clear hf HFW hx1 hx2 hx3 hx4 hx5 hx6 hx7 hx8
  have HFW := HFW'
  clear HFW'
  obtain ⟨⟨hx1, hx2⟩, ⟨hx3, hx4⟩, ⟨hx5, hx6⟩, hx7, hx8⟩ := HC.out _ HFW.out
  go_wp2_with fail
  refine (awake_calls _).mono ?_
  rintro e w9 ⟨rfl, hf⟩
  have HZ := Lib.hid (HFF.out.trans (HFW.out.trans hf))
  clear hf HFW hx1 hx2 hx3 hx4 hx5 hx6 hx7 hx8
  go_wp2_with fail
  go_ret
  exact ⟨rfl, HZ.out⟩
set_option maxRecDepth 100000 in
set_option maxHeartbeats 2000000 in
theorem back_no4 (w : World) (fa fb ta tb ap am bp bm : Option Addr) (fc fd tc td cp cm dp dm : Nat) (fs fi ts ti p m q o : List Int) (h1 : RdI w fa fc fs) (h2 : RdI w fb fd fi) (h3 : RdI w ta tc ts) (h4 : RdI w tb td ti) (h5 : RdI w ap cp p) (h6 : RdI w am cm m) (h7 : RdI w bp dp q) (h8 : RdI w bm dm o) (m1 : (setB fs && setB fi) = true) (m2 : (setB ts && setB ti) = true) (m3 : (setB p) = true) (m4 : (setB m) = false) :
    Calls Try.prog 8 #[.agg #[.slice fa fs.length fc, .slice fb fi.length fd], .agg #[.slice ta ts.length tc, .slice tb ti.length td], .agg #[.slice ap p.length cp, .slice am m.length cm], .agg #[.slice bp q.length dp, .slice bm o.length dm]] w fun e w' => e = .returned (.bool true) ∧ Fr [] w w' := by
  have hF : Fr [] w ((((w.alloc (.cells #[.slice fa fs.length fc, .slice fb fi.length fd] 26)).alloc (.cells #[.slice ta ts.length tc, .slice tb ti.length td] 26)).alloc (.cells #[.slice ap p.length cp, .slice am m.length cm] 35)).alloc (.cells #[.slice bp q.length dp, .slice bm o.length dm] 35)) := ((((Fr.refl [] w).alloc _).alloc _).alloc _).alloc _
  have hc : ∀ w', Fr [] ((((w.alloc (.cells #[.slice fa fs.length fc, .slice fb fi.length fd] 26)).alloc (.cells #[.slice ta ts.length tc, .slice tb ti.length td] 26)).alloc (.cells #[.slice ap p.length cp, .slice am m.length cm] 35)).alloc (.cells #[.slice bp q.length dp, .slice bm o.length dm] 35)) w' → (w'.cell? ⟨w.heap.size, 0, none⟩ = some (.slice fa fs.length fc) ∧ w'.cell? ⟨w.heap.size, 1, none⟩ = some (.slice fb fi.length fd)) ∧ (w'.cell? ⟨w.heap.size + 1, 0, none⟩ = some (.slice ta ts.length tc) ∧ w'.cell? ⟨w.heap.size + 1, 1, none⟩ = some (.slice tb ti.length td)) ∧ (w'.cell? ⟨w.heap.size + 1 + 1, 0, none⟩ = some (.slice ap p.length cp) ∧ w'.cell? ⟨w.heap.size + 1 + 1, 1, none⟩ = some (.slice am m.length cm)) ∧ (w'.cell? ⟨w.heap.size + 1 + 1 + 1, 0, none⟩ = some (.slice bp q.length dp) ∧ w'.cell? ⟨w.heap.size + 1 + 1 + 1, 1, none⟩ = some (.slice bm o.length dm)) := fun w' hf => by
    obtain ⟨e1, e2, e3, e4⟩ := four_boxes hf
    exact ⟨⟨by rw [box_cell e1]; rfl, by rw [box_cell e1]; rfl⟩, ⟨by rw [box_cell e2]; rfl, by rw [box_cell e2]; rfl⟩, ⟨by rw [box_cell e3]; rfl, by rw [box_cell e3]; rfl⟩, by rw [box_cell e4]; rfl, by rw [box_cell e4]; rfl⟩
  have k1 : ∀ w', Fr [] ((((w.alloc (.cells #[.slice fa fs.length fc, .slice fb fi.length fd] 26)).alloc (.cells #[.slice ta ts.length tc, .slice tb ti.length td] 26)).alloc (.cells #[.slice ap p.length cp, .slice am m.length cm] 35)).alloc (.cells #[.slice bp q.length dp, .slice bm o.length dm] 35)) w' → Calls Try.prog 10 #[.agg #[.slice fa fs.length fc, .slice fb fi.length fd]] w' (fun e w'' => e = .returned (.bool (setB fs && setB fi)) ∧ Fr [] w' w'') := fun w' hf => may_calls w' fa fb fc fd fs fi (h1.keep (hF.trans hf)) (h2.keep (hF.trans hf))
  rw [m1] at k1
  have k2 : ∀ w', Fr [] ((((w.alloc (.cells #[.slice fa fs.length fc, .slice fb fi.length fd] 26)).alloc (.cells #[.slice ta ts.length tc, .slice tb ti.length td] 26)).alloc (.cells #[.slice ap p.length cp, .slice am m.length cm] 35)).alloc (.cells #[.slice bp q.length dp, .slice bm o.length dm] 35)) w' → Calls Try.prog 10 #[.agg #[.slice ta ts.length tc, .slice tb ti.length td]] w' (fun e w'' => e = .returned (.bool (setB ts && setB ti)) ∧ Fr [] w' w'') := fun w' hf => may_calls w' ta tb tc td ts ti (h3.keep (hF.trans hf)) (h4.keep (hF.trans hf))
  rw [m2] at k2
  have k3 : ∀ w', Fr [] ((((w.alloc (.cells #[.slice fa fs.length fc, .slice fb fi.length fd] 26)).alloc (.cells #[.slice ta ts.length tc, .slice tb ti.length td] 26)).alloc (.cells #[.slice ap p.length cp, .slice am m.length cm] 35)).alloc (.cells #[.slice bp q.length dp, .slice bm o.length dm] 35)) w' → Calls Try.prog 9 #[.slice ap p.length cp] w' (fun e w'' => e = .returned (.bool (setB p)) ∧ Fr [] w' w'') := fun w' hf => set_fr w' ap cp p (h5.keep (hF.trans hf))
  rw [m3] at k3
  have k4 : ∀ w', Fr [] ((((w.alloc (.cells #[.slice fa fs.length fc, .slice fb fi.length fd] 26)).alloc (.cells #[.slice ta ts.length tc, .slice tb ti.length td] 26)).alloc (.cells #[.slice ap p.length cp, .slice am m.length cm] 35)).alloc (.cells #[.slice bp q.length dp, .slice bm o.length dm] 35)) w' → Calls Try.prog 9 #[.slice am m.length cm] w' (fun e w'' => e = .returned (.bool (setB m)) ∧ Fr [] w' w'') := fun w' hf => set_fr w' am cm m (h6.keep (hF.trans hf))
  rw [m4] at k4
  have HC := Lib.hid hc; have HFF := Lib.hid hF; have K1 := Lib.hid k1; have K2 := Lib.hid k2; have K3 := Lib.hid k3; have K4 := Lib.hid k4
  clear hF hc h1 h2 h3 h4 h5 h6 h7 h8 k1 m1 k2 m2 k3 m3 k4 m4
  generalize fs.length = n1 at *
  generalize fi.length = n2 at *
  generalize ts.length = n3 at *
  generalize ti.length = n4 at *
  generalize p.length = n5 at *
  generalize m.length = n6 at *
  generalize q.length = n7 at *
  generalize o.length = n8 at *
  go_enter Try.func8, Try.ntmps8
  have HFW : Hid (Fr [] ((((w.alloc (.cells #[.slice fa n1 fc, .slice fb n2 fd] 26)).alloc (.cells #[.slice ta n3 tc, .slice tb n4 td] 26)).alloc (.cells #[.slice ap n5 cp, .slice am n6 cm] 35)).alloc (.cells #[.slice bp n7 dp, .slice bm n8 dm] 35)) _) := Lib.hid (Fr.refl [] _)
  obtain ⟨⟨hx1, hx2⟩, ⟨hx3, hx4⟩, ⟨hx5, hx6⟩, hx7, hx8⟩ := HC.out _ HFW.out
  go_wp2_with fail
  refine (K1.out _ HFW.out).mono ?_
  rintro e wq ⟨rfl, hf⟩
  have HFW' := Lib.hid (HFW.out.trans hf)
  clear hf HFW hx1 hx2 hx3 hx4 hx5 hx6 hx7 hx8
  have HFW := HFW'
  clear HFW'
  obtain ⟨⟨hx1, hx2⟩, ⟨hx3, hx4⟩, ⟨hx5, hx6⟩, hx7, hx8⟩ := HC.out _ HFW.out
  go_wp2_with fail
  refine (K2.out _ HFW.out).mono ?_
  rintro e wq ⟨rfl, hf⟩
  have HFW' := Lib.hid (HFW.out.trans hf)
  clear hf HFW hx1 hx2 hx3 hx4 hx5 hx6 hx7 hx8
  have HFW := HFW'
  clear HFW'
  obtain ⟨⟨hx1, hx2⟩, ⟨hx3, hx4⟩, ⟨hx5, hx6⟩, hx7, hx8⟩ := HC.out _ HFW.out
  go_wp2_with fail
  refine (K3.out _ HFW.out).mono ?_
  rintro e wq ⟨rfl, hf⟩
  have HFW' := Lib.hid (HFW.out.trans hf)
  clear hf HFW hx1 hx2 hx3 hx4 hx5 hx6 hx7 hx8
  have HFW := HFW'
  clear HFW'
  obtain ⟨⟨hx1, hx2⟩, ⟨hx3, hx4⟩, ⟨hx5, hx6⟩, hx7, hx8⟩ := HC.out _ HFW.out
  go_wp2_with fail
  refine (K4.out _ HFW.out).mono ?_
  rintro e wq ⟨rfl, hf⟩
  have HFW' := Lib.hid (HFW.out.trans hf)
  clear hf HFW hx1 hx2 hx3 hx4 hx5 hx6 hx7 hx8
  have HFW := HFW'
  clear HFW'
  obtain ⟨⟨hx1, hx2⟩, ⟨hx3, hx4⟩, ⟨hx5, hx6⟩, hx7, hx8⟩ := HC.out _ HFW.out
  go_wp2_with fail
  refine (awake_calls _).mono ?_
  rintro e w9 ⟨rfl, hf⟩
  have HZ := Lib.hid (HFF.out.trans (HFW.out.trans hf))
  clear hf HFW hx1 hx2 hx3 hx4 hx5 hx6 hx7 hx8
  go_wp2_with fail
  go_ret
  exact ⟨rfl, HZ.out⟩
set_option maxRecDepth 100000 in
set_option maxHeartbeats 2000000 in
theorem back_no5 (w : World) (fa fb ta tb ap am bp bm : Option Addr) (fc fd tc td cp cm dp dm : Nat) (fs fi ts ti p m q o : List Int) (h1 : RdI w fa fc fs) (h2 : RdI w fb fd fi) (h3 : RdI w ta tc ts) (h4 : RdI w tb td ti) (h5 : RdI w ap cp p) (h6 : RdI w am cm m) (h7 : RdI w bp dp q) (h8 : RdI w bm dm o) (m1 : (setB fs && setB fi) = true) (m2 : (setB ts && setB ti) = true) (m3 : (setB p) = true) (m4 : (setB m) = true) (m5 : (setB q) = false) :
    Calls Try.prog 8 #[.agg #[.slice fa fs.length fc, .slice fb fi.length fd], .agg #[.slice ta ts.length tc, .slice tb ti.length td], .agg #[.slice ap p.length cp, .slice am m.length cm], .agg #[.slice bp q.length dp, .slice bm o.length dm]] w fun e w' => e = .returned (.bool true) ∧ Fr [] w w' := by
  have hF : Fr [] w ((((w.alloc (.cells #[.slice fa fs.length fc, .slice fb fi.length fd] 26)).alloc (.cells #[.slice ta ts.length tc, .slice tb ti.length td] 26)).alloc (.cells #[.slice ap p.length cp, .slice am m.length cm] 35)).alloc (.cells #[.slice bp q.length dp, .slice bm o.length dm] 35)) := ((((Fr.refl [] w).alloc _).alloc _).alloc _).alloc _
  have hc : ∀ w', Fr [] ((((w.alloc (.cells #[.slice fa fs.length fc, .slice fb fi.length fd] 26)).alloc (.cells #[.slice ta ts.length tc, .slice tb ti.length td] 26)).alloc (.cells #[.slice ap p.length cp, .slice am m.length cm] 35)).alloc (.cells #[.slice bp q.length dp, .slice bm o.length dm] 35)) w' → (w'.cell? ⟨w.heap.size, 0, none⟩ = some (.slice fa fs.length fc) ∧ w'.cell? ⟨w.heap.size, 1, none⟩ = some (.slice fb fi.length fd)) ∧ (w'.cell? ⟨w.heap.size + 1, 0, none⟩ = some (.slice ta ts.length tc) ∧ w'.cell? ⟨w.heap.size + 1, 1, none⟩ = some (.slice tb ti.length td)) ∧ (w'.cell? ⟨w.heap.size + 1 + 1, 0, none⟩ = some (.slice ap p.length cp) ∧ w'.cell? ⟨w.heap.size + 1 + 1, 1, none⟩ = some (.slice am m.length cm)) ∧ (w'.cell? ⟨w.heap.size + 1 + 1 + 1, 0, none⟩ = some (.slice bp q.length dp) ∧ w'.cell? ⟨w.heap.size + 1 + 1 + 1, 1, none⟩ = some (.slice bm o.length dm)) := fun w' hf => by
    obtain ⟨e1, e2, e3, e4⟩ := four_boxes hf
    exact ⟨⟨by rw [box_cell e1]; rfl, by rw [box_cell e1]; rfl⟩, ⟨by rw [box_cell e2]; rfl, by rw [box_cell e2]; rfl⟩, ⟨by rw [box_cell e3]; rfl, by rw [box_cell e3]; rfl⟩, by rw [box_cell e4]; rfl, by rw [box_cell e4]; rfl⟩
  have k1 : ∀ w', Fr [] ((((w.alloc (.cells #[.slice fa fs.length fc, .slice fb fi.length fd] 26)).alloc (.cells #[.slice ta ts.length tc, .slice tb ti.length td] 26)).alloc (.cells #[.slice ap p.length cp, .slice am m.length cm] 35)).alloc (.cells #[.slice bp q.length dp, .slice bm o.length dm] 35)) w' → Calls Try.prog 10 #[.agg #[.slice fa fs.length fc, .slice fb fi.length fd]] w' (fun e w'' => e = .returned (.bool (setB fs && setB fi)) ∧ Fr [] w' w'') := fun w' hf => may_calls w' fa fb fc fd fs fi (h1.keep (hF.trans hf)) (h2.keep (hF.trans hf))
  rw [m1] at k1
  have k2 : ∀ w', Fr [] ((((w.alloc (.cells #[.slice fa fs.length fc, .slice fb fi.length fd] 26)).alloc (.cells #[.slice ta ts.length tc, .slice tb ti.length td] 26)).alloc (.cells #[.slice ap p.length cp, .slice am m.length cm] 35)).alloc (.cells #[.slice bp q.length dp, .slice bm o.length dm] 35)) w' → Calls Try.prog 10 #[.agg #[.slice ta ts.length tc, .slice tb ti.length td]] w' (fun e w'' => e = .returned (.bool (setB ts && setB ti)) ∧ Fr [] w' w'') := fun w' hf => may_calls w' ta tb tc td ts ti (h3.keep (hF.trans hf)) (h4.keep (hF.trans hf))
  rw [m2] at k2
  have k3 : ∀ w', Fr [] ((((w.alloc (.cells #[.slice fa fs.length fc, .slice fb fi.length fd] 26)).alloc (.cells #[.slice ta ts.length tc, .slice tb ti.length td] 26)).alloc (.cells #[.slice ap p.length cp, .slice am m.length cm] 35)).alloc (.cells #[.slice bp q.length dp, .slice bm o.length dm] 35)) w' → Calls Try.prog 9 #[.slice ap p.length cp] w' (fun e w'' => e = .returned (.bool (setB p)) ∧ Fr [] w' w'') := fun w' hf => set_fr w' ap cp p (h5.keep (hF.trans hf))
  rw [m3] at k3
  have k4 : ∀ w', Fr [] ((((w.alloc (.cells #[.slice fa fs.length fc, .slice fb fi.length fd] 26)).alloc (.cells #[.slice ta ts.length tc, .slice tb ti.length td] 26)).alloc (.cells #[.slice ap p.length cp, .slice am m.length cm] 35)).alloc (.cells #[.slice bp q.length dp, .slice bm o.length dm] 35)) w' → Calls Try.prog 9 #[.slice am m.length cm] w' (fun e w'' => e = .returned (.bool (setB m)) ∧ Fr [] w' w'') := fun w' hf => set_fr w' am cm m (h6.keep (hF.trans hf))
  rw [m4] at k4
  have k5 : ∀ w', Fr [] ((((w.alloc (.cells #[.slice fa fs.length fc, .slice fb fi.length fd] 26)).alloc (.cells #[.slice ta ts.length tc, .slice tb ti.length td] 26)).alloc (.cells #[.slice ap p.length cp, .slice am m.length cm] 35)).alloc (.cells #[.slice bp q.length dp, .slice bm o.length dm] 35)) w' → Calls Try.prog 9 #[.slice bp q.length dp] w' (fun e w'' => e = .returned (.bool (setB q)) ∧ Fr [] w' w'') := fun w' hf => set_fr w' bp dp q (h7.keep (hF.trans hf))
  rw [m5] at k5
  have HC := Lib.hid hc; have HFF := Lib.hid hF; have K1 := Lib.hid k1; have K2 := Lib.hid k2; have K3 := Lib.hid k3; have K4 := Lib.hid k4; have K5 := Lib.hid k5
  clear hF hc h1 h2 h3 h4 h5 h6 h7 h8 k1 m1 k2 m2 k3 m3 k4 m4 k5 m5
  generalize fs.length = n1 at *
  generalize fi.length = n2 at *
  generalize ts.length = n3 at *
  generalize ti.length = n4 at *
  generalize p.length = n5 at *
  generalize m.length = n6 at *
  generalize q.length = n7 at *
  generalize o.length = n8 at *
  go_enter Try.func8, Try.ntmps8
  have HFW : Hid (Fr [] ((((w.alloc (.cells #[.slice fa n1 fc, .slice fb n2 fd] 26)).alloc (.cells #[.slice ta n3 tc, .slice tb n4 td] 26)).alloc (.cells #[.slice ap n5 cp, .slice am n6 cm] 35)).alloc (.cells #[.slice bp n7 dp, .slice bm n8 dm] 35)) _) := Lib.hid (Fr.refl [] _)
  obtain ⟨⟨hx1, hx2⟩, ⟨hx3, hx4⟩, ⟨hx5, hx6⟩, hx7, hx8⟩ := HC.out _ HFW.out
  go_wp2_with fail
  refine (K1.out _ HFW.out).mono ?_
  rintro e wq ⟨rfl, hf⟩
  have HFW' := Lib.hid (HFW.out.trans hf)
  clear hf HFW hx1 hx2 hx3 hx4 hx5 hx6 hx7 hx8
  have HFW := HFW'
  clear HFW'
  obtain ⟨⟨hx1, hx2⟩, ⟨hx3, hx4⟩, ⟨hx5, hx6⟩, hx7, hx8⟩ := HC.out _ HFW.out
  go_wp2_with fail
  refine (K2.out _ HFW.out).mono ?_
  rintro e wq ⟨rfl, hf⟩
  have HFW' := Lib.hid (HFW.out.trans hf)
  clear hf HFW hx1 hx2 hx3 hx4 hx5 hx6 hx7 hx8
  have HFW := HFW'
  clear HFW'
  obtain ⟨⟨hx1, hx2⟩, ⟨hx3, hx4⟩, ⟨hx5, hx6⟩, hx7, hx8⟩ := HC.out _ HFW.out
  go_wp2_with fail
  refine (K3.out _ HFW.out).mono ?_
  rintro e wq ⟨rfl, hf⟩
  have HFW' := Lib.hid (HFW.out.trans hf)
  clear hf HFW hx1 hx2 hx3 hx4 hx5 hx6 hx7 hx8
  have HFW := HFW'
  clear HFW'
  obtain ⟨⟨hx1, hx2⟩, ⟨hx3, hx4⟩, ⟨hx5, hx6⟩, hx7, hx8⟩ := HC.out _ HFW.out
  go_wp2_with fail
  refine (K4.out _ HFW.out).mono ?_
  rintro e wq ⟨rfl, hf⟩
  have HFW' := Lib.hid (HFW.out.trans hf)
  clear hf HFW hx1 hx2 hx3 hx4 hx5 hx6 hx7 hx8
  have HFW := HFW'
  clear HFW'
  obtain ⟨⟨hx1, hx2⟩, ⟨hx3, hx4⟩, ⟨hx5, hx6⟩, hx7, hx8⟩ := HC.out _ HFW.out
  go_wp2_with fail
  refine (K5.out _ HFW.out).mono ?_
  rintro e wq ⟨rfl, hf⟩
  have HFW' := Lib.hid (HFW.out.trans hf)
  clear hf HFW hx1 hx2 hx3 hx4 hx5 hx6 hx7 hx8
  have HFW := HFW'
  clear HFW'
  obtain ⟨⟨hx1, hx2⟩, ⟨hx3, hx4⟩, ⟨hx5, hx6⟩, hx7, hx8⟩ := HC.out _ HFW.out
  go_wp2_with fail
  refine (awake_calls _).mono ?_
  rintro e w9 ⟨rfl, hf⟩
  have HZ := Lib.hid (HFF.out.trans (HFW.out.trans hf))
  clear hf HFW hx1 hx2 hx3 hx4 hx5 hx6 hx7 hx8
  go_wp2_with fail
  go_ret
  exact ⟨rfl, HZ.out⟩
set_option maxRecDepth 100000 in
set_option maxHeartbeats 2000000 in
theorem back_no6 (w : World) (fa fb ta tb ap am bp bm : Option Addr) (fc fd tc td cp cm dp dm : Nat) (fs fi ts ti p m q o : List Int) (h1 : RdI w fa fc fs) (h2 : RdI w fb fd fi) (h3 : RdI w ta tc ts) (h4 : RdI w tb td ti) (h5 : RdI w ap cp p) (h6 : RdI w am cm m) (h7 : RdI w bp dp q) (h8 : RdI w bm dm o) (m1 : (setB fs && setB fi) = true) (m2 : (setB ts && setB ti) = true) (m3 : (setB p) = true) (m4 : (setB m) = true) (m5 : (setB q) = true) (m6 : (setB o) = false) :
    Calls Try.prog 8 #[.agg #[.slice fa fs.length fc, .slice fb fi.length fd], .agg #[.slice ta ts.length tc, .slice tb ti.length td], .agg #[.slice ap p.length cp, .slice am m.length cm], .agg #[.slice bp q.length dp, .slice bm o.length dm]] w fun e w' => e = .returned (.bool true) ∧ Fr [] w w' := by
  have hF : Fr [] w ((((w.alloc (.cells #[.slice fa fs.length fc, .slice fb fi.length fd] 26)).alloc (.cells #[.slice ta ts.length tc, .slice tb ti.length td] 26)).alloc (.cells #[.slice ap p.length cp, .slice am m.length cm] 35)).alloc (.cells #[.slice bp q.length dp, .slice bm o.length dm] 35)) := ((((Fr.refl [] w).alloc _).alloc _).alloc _).alloc _
  have hc : ∀ w', Fr [] ((((w.alloc (.cells #[.slice fa fs.length fc, .slice fb fi.length fd] 26)).alloc (.cells #[.slice ta ts.length tc, .slice tb ti.length td] 26)).alloc (.cells #[.slice ap p.length cp, .slice am m.length cm] 35)).alloc (.cells #[.slice bp q.length dp, .slice bm o.length dm] 35)) w' → (w'.cell? ⟨w.heap.size, 0, none⟩ = some (.slice fa fs.length fc) ∧ w'.cell? ⟨w.heap.size, 1, none⟩ = some (.slice fb fi.length fd)) ∧ (w'.cell? ⟨w.heap.size + 1, 0, none⟩ = some (.slice ta ts.length tc) ∧ w'.cell? ⟨w.heap.size + 1, 1, none⟩ = some (.slice tb ti.length td)) ∧ (w'.cell? ⟨w.heap.size + 1 + 1, 0, none⟩ = some (.slice ap p.length cp) ∧ w'.cell? ⟨w.heap.size + 1 + 1, 1, none⟩ = some (.slice am m.length cm)) ∧ (w'.cell? ⟨w.heap.size + 1 + 1 + 1, 0, none⟩ = some (.slice bp q.length dp) ∧ w'.cell? ⟨w.heap.size + 1 + 1 + 1, 1, none⟩ = some (.slice bm o.length dm)) := fun w' hf => by
    obtain ⟨e1, e2, e3, e4⟩ := four_boxes hf
    exact ⟨⟨by rw [box_cell e1]; rfl, by rw [box_cell e1]; rfl⟩, ⟨by rw [box_cell e2]; rfl, by rw [box_cell e2]; rfl⟩, ⟨by rw [box_cell e3]; rfl, by rw [box_cell e3]; rfl⟩, by rw [box_cell e4]; rfl, by rw [box_cell e4]; rfl⟩
  have k1 : ∀ w', Fr [] ((((w.alloc (.cells #[.slice fa fs.length fc, .slice fb fi.length fd] 26)).alloc (.cells #[.slice ta ts.length tc, .slice tb ti.length td] 26)).alloc (.cells #[.slice ap p.length cp, .slice am m.length cm] 35)).alloc (.cells #[.slice bp q.length dp, .slice bm o.length dm] 35)) w' → Calls Try.prog 10 #[.agg #[.slice fa fs.length fc, .slice fb fi.length fd]] w' (fun e w'' => e = .returned (.bool (setB fs && setB fi)) ∧ Fr [] w' w'') := fun w' hf => may_calls w' fa fb fc fd fs fi (h1.keep (hF.trans hf)) (h2.keep (hF.trans hf))
  rw [m1] at k1
  have k2 : ∀ w', Fr [] ((((w.alloc (.cells #[.slice fa fs.length fc, .slice fb fi.length fd] 26)).alloc (.cells #[.slice ta ts.length tc, .slice tb ti.length td] 26)).alloc (.cells #[.slice ap p.length cp, .slice am m.length cm] 35)).alloc (.cells #[.slice bp q.length dp, .slice bm o.length dm] 35)) w' → Calls Try.prog 10 #[.agg #[.slice ta ts.length tc, .slice tb ti.length td]] w' (fun e w'' => e = .returned (.bool (setB ts && setB ti)) ∧ Fr [] w' w'') := fun w' hf => may_calls w' ta tb tc td ts ti (h3.keep (hF.trans hf)) (h4.keep (hF.trans hf))
  rw [m2] at k2
  have k3 : ∀ w', Fr [] ((((w.alloc (.cells #[.slice fa fs.length fc, .slice fb fi.length fd] 26)).alloc (.cells #[.slice ta ts.length tc, .slice tb ti.length td] 26)).alloc (.cells #[.slice ap p.length cp, .slice am m.length cm] 35)).alloc (.cells #[.slice bp q.length dp, .slice bm o.length dm] 35)) w' → Calls Try.prog 9 #[.slice ap p.length cp] w' (fun e w'' => e = .returned (.bool (setB p)) ∧ Fr [] w' w'') := fun w' hf => set_fr w' ap cp p (h5.keep (hF.trans hf))
  rw [m3] at k3
  have k4 : ∀ w', Fr [] ((((w.alloc (.cells #[.slice fa fs.length fc, .slice fb fi.length fd] 26)).alloc (.cells #[.slice ta ts.length tc, .slice tb ti.length td] 26)).alloc (.cells #[.slice ap p.length cp, .slice am m.length cm] 35)).alloc (.cells #[.slice bp q.length dp, .slice bm o.length dm] 35)) w' → Calls Try.prog 9 #[.slice am m.length cm] w' (fun e w'' => e = .returned (.bool (setB m)) ∧ Fr [] w' w'') := fun w' hf => set_fr w' am cm m (h6.keep (hF.trans hf))
  rw [m4] at k4
  have k5 : ∀ w', Fr [] ((((w.alloc (.cells #[.slice fa fs.length fc, .slice fb fi.length fd] 26)).alloc (.cells #[.slice ta ts.length tc, .slice tb ti.length td] 26)).alloc (.cells #[.slice ap p.length cp, .slice am m.length cm] 35)).alloc (.cells #[.slice bp q.length dp, .slice bm o.length dm] 35)) w' → Calls Try.prog 9 #[.slice bp q.length dp] w' (fun e w'' => e = .returned (.bool (setB q)) ∧ Fr [] w' w'') := fun w' hf => set_fr w' bp dp q (h7.keep (hF.trans hf))
  rw [m5] at k5
  have k6 : ∀ w', Fr [] ((((w.alloc (.cells #[.slice fa fs.length fc, .slice fb fi.length fd] 26)).alloc (.cells #[.slice ta ts.length tc, .slice tb ti.length td] 26)).alloc (.cells #[.slice ap p.length cp, .slice am m.length cm] 35)).alloc (.cells #[.slice bp q.length dp, .slice bm o.length dm] 35)) w' → Calls Try.prog 9 #[.slice bm o.length dm] w' (fun e w'' => e = .returned (.bool (setB o)) ∧ Fr [] w' w'') := fun w' hf => set_fr w' bm dm o (h8.keep (hF.trans hf))
  rw [m6] at k6
  have HC := Lib.hid hc; have HFF := Lib.hid hF; have K1 := Lib.hid k1; have K2 := Lib.hid k2; have K3 := Lib.hid k3; have K4 := Lib.hid k4; have K5 := Lib.hid k5; have K6 := Lib.hid k6
  clear hF hc h1 h2 h3 h4 h5 h6 h7 h8 k1 m1 k2 m2 k3 m3 k4 m4 k5 m5 k6 m6
  generalize fs.length = n1 at *
  generalize fi.length = n2 at *
  generalize ts.length = n3 at *
  generalize ti.length = n4 at *
  generalize p.length = n5 at *
  generalize m.length = n6 at *
  generalize q.length = n7 at *
  generalize o.length = n8 at *
  go_enter Try.func8, Try.ntmps8
  have HFW : Hid (Fr [] ((((w.alloc (.cells #[.slice fa n1 fc, .slice fb n2 fd] 26)).alloc (.cells #[.slice ta n3 tc, .slice tb n4 td] 26)).alloc (.cells #[.slice ap n5 cp, .slice am n6 cm] 35)).alloc (.cells #[.slice bp n7 dp, .slice bm n8 dm] 35)) _) := Lib.hid (Fr.refl [] _)
  obtain ⟨⟨hx1, hx2⟩, ⟨hx3, hx4⟩, ⟨hx5, hx6⟩, hx7, hx8⟩ := HC.out _ HFW.out
  go_wp2_with fail
  refine (K1.out _ HFW.out).mono ?_
  rintro e wq ⟨rfl, hf⟩
  have HFW' := Lib.hid (HFW.out.trans hf)
  clear hf HFW hx1 hx2 hx3 hx4 hx5 hx6 hx7 hx8
  have HFW := HFW'
  clear HFW'
  obtain ⟨⟨hx1, hx2⟩, ⟨hx3, hx4⟩, ⟨hx5, hx6⟩, hx7, hx8⟩ := HC.out _ HFW.out
  go_wp2_with fail
  refine (K2.out _ HFW.out).mono ?_
  rintro e wq ⟨rfl, hf⟩
  have HFW' := Lib.hid (HFW.out.trans hf)
  clear hf HFW hx1 hx2 hx3 hx4 hx5 hx6 hx7 hx8
  have HFW := HFW'
  clear HFW'
  obtain ⟨⟨hx1, hx2⟩, ⟨hx3, hx4⟩, ⟨hx5, hx6⟩, hx7, hx8⟩ := HC.out _ HFW.out
  go_wp2_with fail
  refine (K3.out _ HFW.out).mono ?_
  rintro e wq ⟨rfl, hf⟩
  have HFW' := Lib.hid (HFW.out.trans hf)
  clear hf HFW hx1 hx2 hx3 hx4 hx5 hx6 hx7 hx8
  have HFW := HFW'
  clear HFW'
  obtain ⟨⟨hx1, hx2⟩, ⟨hx3, hx4⟩, ⟨hx5, hx6⟩, hx7, hx8⟩ := HC.out _ HFW.out
  go_wp2_with fail
  refine (K4.out _ HFW.out).mono ?_
  rintro e wq ⟨rfl, hf⟩
  have HFW' := Lib.hid (HFW.out.trans hf)
  clear hf HFW hx1 hx2 hx3 hx4 hx5 hx6 hx7 hx8
  have HFW := HFW'
  clear HFW'
  obtain ⟨⟨hx1, hx2⟩, ⟨hx3, hx4⟩, ⟨hx5, hx6⟩, hx7, hx8⟩ := HC.out _ HFW.out
  go_wp2_with fail
  refine (K5.out _ HFW.out).mono ?_
  rintro e wq ⟨rfl, hf⟩
  have HFW' := Lib.hid (HFW.out.trans hf)
  clear hf HFW hx1 hx2 hx3 hx4 hx5 hx6 hx7 hx8
  have HFW := HFW'
  clear HFW'
  obtain ⟨⟨hx1, hx2⟩, ⟨hx3, hx4⟩, ⟨hx5, hx6⟩, hx7, hx8⟩ := HC.out _ HFW.out
  go_wp2_with fail
  refine (K6.out _ HFW.out).mono ?_
  rintro e wq ⟨rfl, hf⟩
  have HFW' := Lib.hid (HFW.out.trans hf)
  clear hf HFW hx1 hx2 hx3 hx4 hx5 hx6 hx7 hx8
  have HFW := HFW'
  clear HFW'
  obtain ⟨⟨hx1, hx2⟩, ⟨hx3, hx4⟩, ⟨hx5, hx6⟩, hx7, hx8⟩ := HC.out _ HFW.out
  go_wp2_with fail
  refine (awake_calls _).mono ?_
  rintro e w9 ⟨rfl, hf⟩
  have HZ := Lib.hid (HFF.out.trans (HFW.out.trans hf))
  clear hf HFW hx1 hx2 hx3 hx4 hx5 hx6 hx7 hx8
  go_wp2_with fail
  go_ret
  exact ⟨rfl, HZ.out⟩
end Go.Proofs.Ytdbhppfpalpfmaa
