/-
  LabelBack: back by the capabilities turned about.
-/
import Derived.Test.YtdbhppfpalpfmaaLabBk0
import Derived.Deep.DeepCutAuto
namespace Go.Proofs.Ytdbhppfpalpfmaa
open Go.RowKit Go.MapKept
theorem subB_nil (b : List Int) : subB [] b = true := subB_iff.2 fun x hx => by simp at hx
theorem lessB_self (a : List Int) : lessB a a = [] := by
  unfold lessB; rw [List.filter_eq_nil_iff]; intro x hx; simpa using hx
theorem safeB_self (f p m : List Int) : safeB f f p m = true := by unfold safeB; rw [lessB_self, subB_nil, subB_nil]; rfl
theorem safeB_back (f t p m : List Int) : safeB t f m p = safeB f t p m := by unfold safeB; rw [Bool.and_comm]
theorem subB_mono {a b c : List Int} (h : subB a b = true) (hs : ∀ x ∈ b, x ∈ c) : subB a c = true := subB_iff.2 fun x hx => hs x (subB_iff.1 h x hx)
theorem safeB_mono {f t p m p' m' : List Int} (h : safeB f t p m = true) (h1 : ∀ x ∈ p, x ∈ p') (h2 : ∀ x ∈ m, x ∈ m') : safeB f t p' m' = true := by
  unfold safeB at *
  simp only [Bool.and_eq_true] at *
  exact ⟨subB_mono h.1 h1, subB_mono h.2 h2⟩
theorem changeB_mono {fs fi ts ti p m p' m' : List Int} (h : changeB fs fi ts ti p m = true) (h1 : ∀ x ∈ p, x ∈ p') (h2 : ∀ x ∈ m, x ∈ m') : changeB fs fi ts ti p' m' = true := by
  unfold changeB at *
  simp only [Bool.and_eq_true] at *
  exact ⟨⟨h.1.1, safeB_mono h.1.2 h1 h2⟩, safeB_mono h.2 h1 h2⟩
theorem changeB_back {fs fi ts ti p m : List Int} (h1 : (setB fs && setB fi) = true) (h2 : (setB ts && setB ti) = true) : changeB ts ti fs fi m p = changeB fs fi ts ti p m := by
  unfold changeB; rw [h1, h2, safeB_back fs ts p m, safeB_back fi ti p m]
theorem changeB_self {fs fi p m : List Int} (h1 : (setB fs && setB fi) = true) : changeB fs fi fs fi p m = true := by
  unfold changeB; rw [h1, safeB_self, safeB_self]; rfl
theorem withinB_of {p m q o : List Int} (h1 : ∀ x ∈ p, x ∈ q) (h2 : ∀ x ∈ m, x ∈ o) : withinB p m q o = true := by
  unfold withinB; rw [subB_iff.2 h1, subB_iff.2 h2]; rfl
theorem lessB_sub (a b : List Int) : ∀ x ∈ lessB a b, x ∈ a := fun x hx => (List.mem_filter.1 hx).1
set_option maxRecDepth 100000 in
set_option maxHeartbeats 8000000 in
theorem back_yes (w : World) (fa fb ta tb ap am bp bm : Option Addr) (fc fd tc td cp cm dp dm : Nat) (fs fi ts ti p m q o : List Int) (h1 : RdI w fa fc fs) (h2 : RdI w fb fd fi) (h3 : RdI w ta tc ts) (h4 : RdI w tb td ti) (h5 : RdI w ap cp p) (h6 : RdI w am cm m) (h7 : RdI w bp dp q) (h8 : RdI w bm dm o) (m1 : (setB fs && setB fi) = true) (m2 : (setB ts && setB ti) = true) (m3 : (setB p) = true) (m4 : (setB m) = true) (m5 : (setB q) = true) (m6 : (setB o) = true) :
    Calls Try.prog 8 #[.agg #[.slice fa fs.length fc, .slice fb fi.length fd], .agg #[.slice ta ts.length tc, .slice tb ti.length td], .agg #[.slice ap p.length cp, .slice am m.length cm], .agg #[.slice bp q.length dp, .slice bm o.length dm]] w fun e w' => e = .returned (.bool true) ∧ Fr [] w w' := by
  have ap' := setB_asc m3; have am' := setB_asc m4; have aq' := setB_asc m5; have ao' := setB_asc m6
  have hF : Fr [] w ((((w.alloc (.cells #[.slice fa fs.length fc, .slice fb fi.length fd] 26)).alloc (.cells #[.slice ta ts.length tc, .slice tb ti.length td] 26)).alloc (.cells #[.slice ap p.length cp, .slice am m.length cm] 35)).alloc (.cells #[.slice bp q.length dp, .slice bm o.length dm] 35)) := ((((Fr.refl [] w).alloc _).alloc _).alloc _).alloc _
  have hc : ∀ w', Fr [] ((((w.alloc (.cells #[.slice fa fs.length fc, .slice fb fi.length fd] 26)).alloc (.cells #[.slice ta ts.length tc, .slice tb ti.length td] 26)).alloc (.cells #[.slice ap p.length cp, .slice am m.length cm] 35)).alloc (.cells #[.slice bp q.length dp, .slice bm o.length dm] 35)) w' → (w'.cell? ⟨w.heap.size, 0, none⟩ = some (.slice fa fs.length fc) ∧ w'.cell? ⟨w.heap.size, 1, none⟩ = some (.slice fb fi.length fd)) ∧ (w'.cell? ⟨w.heap.size + 1, 0, none⟩ = some (.slice ta ts.length tc) ∧ w'.cell? ⟨w.heap.size + 1, 1, none⟩ = some (.slice tb ti.length td)) ∧ (w'.cell? ⟨w.heap.size + 1 + 1, 0, none⟩ = some (.slice ap p.length cp) ∧ w'.cell? ⟨w.heap.size + 1 + 1, 1, none⟩ = some (.slice am m.length cm)) ∧ (w'.cell? ⟨w.heap.size + 1 + 1 + 1, 0, none⟩ = some (.slice bp q.length dp) ∧ w'.cell? ⟨w.heap.size + 1 + 1 + 1, 1, none⟩ = some (.slice bm o.length dm)) := fun w' hf => by
    obtain ⟨e1, e2, e3, e4⟩ := four_boxes hf
    exact ⟨⟨by rw [box_cell e1]; rfl, by rw [box_cell e1]; rfl⟩, ⟨by rw [box_cell e2]; rfl, by rw [box_cell e2]; rfl⟩, ⟨by rw [box_cell e3]; rfl, by rw [box_cell e3]; rfl⟩, by rw [box_cell e4]; rfl, by rw [box_cell e4]; rfl⟩
  have k1 : ∀ w', Fr [] ((((w.alloc (.cells #[.slice fa fs.length fc, .slice fb fi.length fd] 26)).alloc (.cells #[.slice ta ts.length tc, .slice tb ti.length td] 26)).alloc (.cells #[.slice ap p.length cp, .slice am m.length cm] 35)).alloc (.cells #[.slice bp q.length dp, .slice bm o.length dm] 35)) w' → Calls Try.prog 10 #[.agg #[.slice fa fs.length fc, .slice fb fi.length fd]] w' (fun e w'' => e = .returned (.bool (setB fs && setB fi)) ∧ Fr [] w' w'') := fun w' hf => may_calls w' fa fb fc fd fs fi (h1.keep (hF.trans hf)) (h2.keep (hF.trans hf))
  rw [m1] at k1
  have k2 : ∀ w', Fr [] ((((w.alloc (.cells #[.slice fa fs.length fc, .slice fb fi.length fd] 26)).alloc (.cells #[.slice ta ts.length tc, .slice tb ti.length td] 26)).alloc (.cells #[.slice ap p.length cp, .slice am m.length cm] 35)).alloc (.cells #[.slice bp q.length dp, .slice bm o.length dm] 35)) w' → Calls Try.prog 10 #[.agg #[.slice ta ts.length tc, .slice tb ti.length td]] w' (fun e w'' => e = .returned (.bool (setB ts && setB ti)) ∧ Fr [] w' w'') := fun w' hf => may_calls w' ta tb tc td ts ti (h3.keep (hF.trans hf)) (h4.keep (hF.trans hf))
  rw [m2] at k2
  have k3 : ∀ w', Fr [] ((((w.alloc (.cells #[.slice fa fs.length fc, .slice fb fi.length fd] 26)).alloc (.cells #[.slice ta ts.length tc, .slice tb ti.length td] 26)).alloc (.cells #[.slice ap p.length cp, .slice am m.length cm] 35)).alloc (.cells #[.slice bp q.length dp, .slice bm o.length dm] 35)) w' → Calls Try.prog 9 #[.slice ap p.length cp] w' (fun e w'' => e = .returned (.bool (setB p)) ∧ Fr [] w' w'') := fun w' hf => set_fr w' ap cp p (h5.keep (hF.trans hf))
  rw [m3] at k3
  have k4 : ∀ w', Fr [] ((((w.alloc (.cells #[.slice fa fs.length fc, .slice fb fi.length fd] 26)).alloc (.cells #[.slice ta ts.length tc, .slice tb ti.length td] 26)).alloc (.cells #[.slice ap p.length cp, .slice am m.length cm] 35)).alloc (.cells #[.slice bp q.length dp, .slice bm o.length dm] 35)) w' → Calls Try.prog 9 #[.slice am m.length cm] w' (fun e w'' => e = .returned (.bool (setB m)) ∧ Fr [] w' w'') := fun w' hf => set_fr w' am cm m (h6.keep (hF.trans hf))
  rw [m4] at k4
  have k5 : ∀ w', Fr [] ((((w.alloc (.cells #[.slice fa fs.length fc, .slice fb fi.length fd] 26)).alloc (.cells #[.slice ta ts.length tc, .slice tb ti.length td] 26)).alloc (.cells #[.slice ap p.length cp, .slice am m.length cm] 35)).alloc (.cells #[.slice bp q.length dp, .slice bm o.length dm] 35)) w' → Calls Try.prog 9 #[.slice bp q.length dp] w' (fun e w'' => e = .returned (.bool (setB q)) ∧ Fr [] w' w'') := fun w' hf => set_fr w' bp dp q (h7.keep (hF.trans hf))
  rw [m5] at k5
  have k6 : ∀ w', Fr [] ((((w.alloc (.cells #[.slice fa fs.length fc, .slice fb fi.length fd] 26)).alloc (.cells #[.slice ta ts.length tc, .slice tb ti.length td] 26)).alloc (.cells #[.slice ap p.length cp, .slice am m.length cm] 35)).alloc (.cells #[.slice bp q.length dp, .slice bm o.length dm] 35)) w' → Calls Try.prog 9 #[.slice bm o.length dm] w' (fun e w'' => e = .returned (.bool (setB o)) ∧ Fr [] w' w'') := fun w' hf => set_fr w' bm dm o (h8.keep (hF.trans hf))
  rw [m6] at k6
  have kc : ∀ w', Fr [] ((((w.alloc (.cells #[.slice fa fs.length fc, .slice fb fi.length fd] 26)).alloc (.cells #[.slice ta ts.length tc, .slice tb ti.length td] 26)).alloc (.cells #[.slice ap p.length cp, .slice am m.length cm] 35)).alloc (.cells #[.slice bp q.length dp, .slice bm o.length dm] 35)) w' → Calls Try.prog 31 #[.agg #[.slice fa fs.length fc, .slice fb fi.length fd], .agg #[.slice ta ts.length tc, .slice tb ti.length td], .agg #[.slice ap p.length cp, .slice am m.length cm]] w' (fun e w'' => e = .returned (.bool (changeB fs fi ts ti p m)) ∧ Fr [] w' w'') :=
    fun w' hf => change_calls w' fa fb ta tb ap am fc fd tc td cp cm fs fi ts ti p m (h1.keep (hF.trans hf)) (h2.keep (hF.trans hf)) (h3.keep (hF.trans hf)) (h4.keep (hF.trans hf)) (h5.keep (hF.trans hf)) (h6.keep (hF.trans hf))
  have kt : ∀ w', Fr [] ((((w.alloc (.cells #[.slice fa fs.length fc, .slice fb fi.length fd] 26)).alloc (.cells #[.slice ta ts.length tc, .slice tb ti.length td] 26)).alloc (.cells #[.slice ap p.length cp, .slice am m.length cm] 35)).alloc (.cells #[.slice bp q.length dp, .slice bm o.length dm] 35)) w' → Calls Try.prog 31 #[.agg #[.slice ta ts.length tc, .slice tb ti.length td], .agg #[.slice fa fs.length fc, .slice fb fi.length fd], .agg #[.slice am m.length cm, .slice ap p.length cp]] w' (fun e w'' => e = .returned (.bool (changeB ts ti fs fi m p)) ∧ Fr [] w' w'') :=
    fun w' hf => change_calls w' ta tb fa fb am ap tc td fc fd cm cp ts ti fs fi m p (h3.keep (hF.trans hf)) (h4.keep (hF.trans hf)) (h1.keep (hF.trans hf)) (h2.keep (hF.trans hf)) (h6.keep (hF.trans hf)) (h5.keep (hF.trans hf))
  have ks : ∀ w', Fr [] ((((w.alloc (.cells #[.slice fa fs.length fc, .slice fb fi.length fd] 26)).alloc (.cells #[.slice ta ts.length tc, .slice tb ti.length td] 26)).alloc (.cells #[.slice ap p.length cp, .slice am m.length cm] 35)).alloc (.cells #[.slice bp q.length dp, .slice bm o.length dm] 35)) w' → Calls Try.prog 31 #[.agg #[.slice fa fs.length fc, .slice fb fi.length fd], .agg #[.slice fa fs.length fc, .slice fb fi.length fd], .agg #[.slice ap p.length cp, .slice am m.length cm]] w' (fun e w'' => e = .returned (.bool (changeB fs fi fs fi p m)) ∧ Fr [] w' w'') :=
    fun w' hf => change_calls w' fa fb fa fb ap am fc fd fc fd cp cm fs fi fs fi p m (h1.keep (hF.trans hf)) (h2.keep (hF.trans hf)) (h1.keep (hF.trans hf)) (h2.keep (hF.trans hf)) (h5.keep (hF.trans hf)) (h6.keep (hF.trans hf))
  rw [changeB_back m1 m2] at kt
  rw [changeB_self m1] at ks
  have kx : ∀ (w' : World) (x y : Option Addr) (cx cy : Nat) (u v : List Int), Fr [] ((((w.alloc (.cells #[.slice fa fs.length fc, .slice fb fi.length fd] 26)).alloc (.cells #[.slice ta ts.length tc, .slice tb ti.length td] 26)).alloc (.cells #[.slice ap p.length cp, .slice am m.length cm] 35)).alloc (.cells #[.slice bp q.length dp, .slice bm o.length dm] 35)) w' → RdI w' x cx u → RdI w' y cy v → Calls Try.prog 31 #[.agg #[.slice fa fs.length fc, .slice fb fi.length fd], .agg #[.slice ta ts.length tc, .slice tb ti.length td], .agg #[.slice x u.length cx, .slice y v.length cy]] w' (fun e w'' => e = .returned (.bool (changeB fs fi ts ti u v)) ∧ Fr [] w' w'') :=
    fun w' x y cx cy u v hf hu hv => change_calls w' fa fb ta tb x y fc fd tc td cx cy fs fi ts ti u v (h1.keep (hF.trans hf)) (h2.keep (hF.trans hf)) (h3.keep (hF.trans hf)) (h4.keep (hF.trans hf)) hu hv
  have kw1 : ∀ (w' : World) (x y : Option Addr) (cx cy : Nat), Fr [] ((((w.alloc (.cells #[.slice fa fs.length fc, .slice fb fi.length fd] 26)).alloc (.cells #[.slice ta ts.length tc, .slice tb ti.length td] 26)).alloc (.cells #[.slice ap p.length cp, .slice am m.length cm] 35)).alloc (.cells #[.slice bp q.length dp, .slice bm o.length dm] 35)) w' → RdI w' x cx (joinB p q) → RdI w' y cy (joinB m o) → Calls Try.prog 33 #[.agg #[.slice ap p.length cp, .slice am m.length cm], .agg #[.slice x (joinB p q).length cx, .slice y (joinB m o).length cy]] w' (fun e w'' => e = .returned (.bool true) ∧ Fr [] w' w'') := by
    intro w' x y cx cy hf hu hv
    have := within_calls w' ap am x y cp cm cx cy p m _ _ (h5.keep (hF.trans hf)) (h6.keep (hF.trans hf)) hu hv
    rw [withinB_of (fun z hz => (joinB_mem ap' aq' z).2 (.inl hz)) (fun z hz => (joinB_mem am' ao' z).2 (.inl hz))] at this
    exact this
  have kw2 : ∀ (w' : World) (x y : Option Addr) (cx cy : Nat), Fr [] ((((w.alloc (.cells #[.slice fa fs.length fc, .slice fb fi.length fd] 26)).alloc (.cells #[.slice ta ts.length tc, .slice tb ti.length td] 26)).alloc (.cells #[.slice ap p.length cp, .slice am m.length cm] 35)).alloc (.cells #[.slice bp q.length dp, .slice bm o.length dm] 35)) w' → RdI w' x cx (joinB p q) → RdI w' y cy (joinB m o) → Calls Try.prog 33 #[.agg #[.slice bp q.length dp, .slice bm o.length dm], .agg #[.slice x (joinB p q).length cx, .slice y (joinB m o).length cy]] w' (fun e w'' => e = .returned (.bool true) ∧ Fr [] w' w'') := by
    intro w' x y cx cy hf hu hv
    have := within_calls w' bp bm x y dp dm cx cy q o _ _ (h7.keep (hF.trans hf)) (h8.keep (hF.trans hf)) hu hv
    rw [withinB_of (fun z hz => (joinB_mem ap' aq' z).2 (.inr hz)) (fun z hz => (joinB_mem am' ao' z).2 (.inr hz))] at this
    exact this
  have kw3 : ∀ (w' : World) (x y : Option Addr) (cx cy : Nat), Fr [] ((((w.alloc (.cells #[.slice fa fs.length fc, .slice fb fi.length fd] 26)).alloc (.cells #[.slice ta ts.length tc, .slice tb ti.length td] 26)).alloc (.cells #[.slice ap p.length cp, .slice am m.length cm] 35)).alloc (.cells #[.slice bp q.length dp, .slice bm o.length dm] 35)) w' → RdI w' x cx (lessB p q) → RdI w' y cy (lessB m o) → Calls Try.prog 33 #[.agg #[.slice x (lessB p q).length cx, .slice y (lessB m o).length cy], .agg #[.slice ap p.length cp, .slice am m.length cm]] w' (fun e w'' => e = .returned (.bool true) ∧ Fr [] w' w'') := by
    intro w' x y cx cy hf hu hv
    have := within_calls w' x y ap am cx cy cp cm _ _ p m hu hv (h5.keep (hF.trans hf)) (h6.keep (hF.trans hf))
    rw [withinB_of (lessB_sub p q) (lessB_sub m o)] at this
    exact this
  have hm1 : changeB fs fi ts ti p m = true → changeB fs fi ts ti (joinB p q) (joinB m o) = true := fun h => changeB_mono h (fun z hz => (joinB_mem ap' aq' z).2 (.inl hz)) (fun z hz => (joinB_mem am' ao' z).2 (.inl hz))
  have hm2 : changeB fs fi ts ti (lessB p q) (lessB m o) = true → changeB fs fi ts ti p m = true := fun h => changeB_mono h (lessB_sub p q) (lessB_sub m o)
  have kmo : ∀ w', Fr [] ((((w.alloc (.cells #[.slice fa fs.length fc, .slice fb fi.length fd] 26)).alloc (.cells #[.slice ta ts.length tc, .slice tb ti.length td] 26)).alloc (.cells #[.slice ap p.length cp, .slice am m.length cm] 35)).alloc (.cells #[.slice bp q.length dp, .slice bm o.length dm] 35)) w' → Calls Try.prog 23 #[.agg #[.slice ap p.length cp, .slice am m.length cm], .agg #[.slice bp q.length dp, .slice bm o.length dm]] w' _ := fun w' hf => more_calls w' ap am bp bm cp cm dp dm p m q o (h5.keep (hF.trans hf)) (h6.keep (hF.trans hf)) (h7.keep (hF.trans hf)) (h8.keep (hF.trans hf)) m3 m4 m5 m6
  have kle : ∀ w', Fr [] ((((w.alloc (.cells #[.slice fa fs.length fc, .slice fb fi.length fd] 26)).alloc (.cells #[.slice ta ts.length tc, .slice tb ti.length td] 26)).alloc (.cells #[.slice ap p.length cp, .slice am m.length cm] 35)).alloc (.cells #[.slice bp q.length dp, .slice bm o.length dm] 35)) w' → Calls Try.prog 36 #[.agg #[.slice ap p.length cp, .slice am m.length cm], .agg #[.slice bp q.length dp, .slice bm o.length dm]] w' _ := fun w' hf => less_calls w' ap am bp bm cp cm dp dm p m q o (h5.keep (hF.trans hf)) (h6.keep (hF.trans hf)) (h7.keep (hF.trans hf)) (h8.keep (hF.trans hf))
  have kxj := fun w' x y cx cy => kx w' x y cx cy (joinB p q) (joinB m o)
  have kxl := fun w' x y cx cy => kx w' x y cx cy (lessB p q) (lessB m o)
  have HC := Lib.hid hc; have HFF := Lib.hid hF; have K1 := Lib.hid k1; have K2 := Lib.hid k2; have K3 := Lib.hid k3; have K4 := Lib.hid k4; have K5 := Lib.hid k5; have K6 := Lib.hid k6
  have KC := Lib.hid kc
  have KT := Lib.hid kt
  have KS := Lib.hid ks
  have KW1 := Lib.hid kw1
  have KW2 := Lib.hid kw2
  have KW3 := Lib.hid kw3
  have HM1 := Lib.hid hm1
  have HM2 := Lib.hid hm2
  have KMO := Lib.hid kmo
  have KLE := Lib.hid kle
  have KXJ := Lib.hid kxj
  have KXL := Lib.hid kxl
  clear kx hF hc h1 h2 h3 h4 h5 h6 h7 h8 ap' am' aq' ao' k1 m1 k2 m2 k3 m3 k4 m4 k5 m5 k6 m6 kc kt ks kw1 kw2 kw3 hm1 hm2 kmo kle kxj kxl
  generalize changeB fs fi ts ti p m = v at *
  generalize changeB fs fi ts ti (joinB p q) (joinB m o) = vm at *
  generalize changeB fs fi ts ti (lessB p q) (lessB m o) = vl at *
  generalize (setB (joinB p q) && setB (joinB m o)) = r at *
  generalize joinB p q = j1 at *
  generalize joinB m o = j2 at *
  generalize lessB p q = x1 at *
  generalize lessB m o = x2 at *
  generalize fs.length = n1 at *
  generalize fi.length = n2 at *
  generalize ts.length = n3 at *
  generalize ti.length = n4 at *
  generalize p.length = n5 at *
  generalize m.length = n6 at *
  generalize q.length = n7 at *
  generalize o.length = n8 at *
  go_enter Try.func8, Try.ntmps8
  have HFW : Hid (Fr [] ((((w.alloc (.cells #[.slice fa n1 fc, .slice fb n2 fd] 26)).alloc (.cells #[.slice ta n3 tc, .slice tb n4 td] 26)).alloc (.cells #[.slice ap n5 cp, .slice am n6 cm] 35)).alloc (.cells #[.slice bp n7 dp, .slice bm n8 dm] 35)) _) := Lib.hid (Fr.refl [] _)
  obtain ⟨⟨hx1, hx2⟩, ⟨hx3, hx4⟩, ⟨hx5, hx6⟩, hx7, hx8⟩ := HC.out _ HFW.out
  go_wp2_with fail
  refine (K1.out _ HFW.out).mono ?_
  rintro e wq ⟨rfl, hf⟩
  have HFW' := Lib.hid (HFW.out.trans hf)
  clear hf HFW hx1 hx2 hx3 hx4 hx5 hx6 hx7 hx8
  have HFW := HFW'
  clear HFW'
  obtain ⟨⟨hx1, hx2⟩, ⟨hx3, hx4⟩, ⟨hx5, hx6⟩, hx7, hx8⟩ := HC.out _ HFW.out
  go_wp2_with fail
  refine (K2.out _ HFW.out).mono ?_
  rintro e wq ⟨rfl, hf⟩
  have HFW' := Lib.hid (HFW.out.trans hf)
  clear hf HFW hx1 hx2 hx3 hx4 hx5 hx6 hx7 hx8
  have HFW := HFW'
  clear HFW'
  obtain ⟨⟨hx1, hx2⟩, ⟨hx3, hx4⟩, ⟨hx5, hx6⟩, hx7, hx8⟩ := HC.out _ HFW.out
  go_wp2_with fail
  refine (K3.out _ HFW.out).mono ?_
  rintro e wq ⟨rfl, hf⟩
  have HFW' := Lib.hid (HFW.out.trans hf)
  clear hf HFW hx1 hx2 hx3 hx4 hx5 hx6 hx7 hx8
  have HFW := HFW'
  clear HFW'
  obtain ⟨⟨hx1, hx2⟩, ⟨hx3, hx4⟩, ⟨hx5, hx6⟩, hx7, hx8⟩ := HC.out _ HFW.out
  go_wp2_with fail
  refine (K4.out _ HFW.out).mono ?_
  rintro e wq ⟨rfl, hf⟩
  have HFW' := Lib.hid (HFW.out.trans hf)
  clear hf HFW hx1 hx2 hx3 hx4 hx5 hx6 hx7 hx8
  have HFW := HFW'
  clear HFW'
  obtain ⟨⟨hx1, hx2⟩, ⟨hx3, hx4⟩, ⟨hx5, hx6⟩, hx7, hx8⟩ := HC.out _ HFW.out
  go_wp2_with fail
  refine (K5.out _ HFW.out).mono ?_
  rintro e wq ⟨rfl, hf⟩
  have HFW' := Lib.hid (HFW.out.trans hf)
  clear hf HFW hx1 hx2 hx3 hx4 hx5 hx6 hx7 hx8
  have HFW := HFW'
  clear HFW'
  obtain ⟨⟨hx1, hx2⟩, ⟨hx3, hx4⟩, ⟨hx5, hx6⟩, hx7, hx8⟩ := HC.out _ HFW.out
  go_wp2_with fail
  refine (K6.out _ HFW.out).mono ?_
  rintro e wq ⟨rfl, hf⟩
  have HFW' := Lib.hid (HFW.out.trans hf)
  clear hf HFW hx1 hx2 hx3 hx4 hx5 hx6 hx7 hx8
  have HFW := HFW'
  clear HFW'
  obtain ⟨⟨hx1, hx2⟩, ⟨hx3, hx4⟩, ⟨hx5, hx6⟩, hx7, hx8⟩ := HC.out _ HFW.out
  go_wp2_with fail
  go_upto_region 4 with fail
  have hft : Fr [] wq (wq.alloc (.cells #[.slice am n6 cm, .slice ap n5 cp] 35)) := (Fr.refl [] wq).alloc _
  have hct : ∀ w', Fr [] (wq.alloc (.cells #[.slice am n6 cm, .slice ap n5 cp] 35)) w' → w'.cell? ⟨wq.heap.size, 0, none⟩ = some (.slice am n6 cm) ∧ w'.cell? ⟨wq.heap.size, 1, none⟩ = some (.slice ap n5 cp) := fun w' h => by
    have hb := h.keep (heap_alloc_last wq (.cells #[.slice am n6 cm, .slice ap n5 cp] 35)) (by simp)
    exact ⟨by rw [box_cell hb]; rfl, by rw [box_cell hb]; rfl⟩
  have HF5 := Lib.hid (HFW.out.trans hft); have HT := Lib.hid hct
  clear hft hct HFW hx1 hx2 hx3 hx4 hx5 hx6 hx7 hx8
  obtain ⟨wt, hwt⟩ : ∃ x, wq.alloc (.cells #[.slice am n6 cm, .slice ap n5 cp] 35) = x := ⟨_, rfl⟩
  obtain ⟨gt, hgt⟩ : ∃ g, wq.heap.size = g := ⟨_, rfl⟩
  rw [hwt] at HF5 HT ⊢
  rw [hgt] at HT ⊢
  clear hwt hgt
  go_cut [66] (fun x wx => x = .bool false ∧ Fr [] ((((w.alloc (.cells #[.slice fa n1 fc, .slice fb n2 fd] 26)).alloc (.cells #[.slice ta n3 tc, .slice tb n4 td] 26)).alloc (.cells #[.slice ap n5 cp, .slice am n6 cm] 35)).alloc (.cells #[.slice bp n7 dp, .slice bm n8 dm] 35)) wx)
  case first =>
    obtain ⟨⟨hx1, hx2⟩, ⟨hx3, hx4⟩, ⟨hx5, hx6⟩, hx7, hx8⟩ := HC.out _ HF5.out
    obtain ⟨hx9, hx10⟩ := HT.out _ (Fr.refl [] _)
    have q1 := cell_regrown hx1; have q2 := cell_regrown hx2; have q3 := cell_regrown hx3; have q4 := cell_regrown hx4; have q5 := cell_regrown hx5; have q6 := cell_regrown hx6; have q7 := cell_regrown hx7; have q8 := cell_regrown hx8; have q9 := cell_regrown hx9; have q10 := cell_regrown hx10
    clear hx1 hx2 hx3 hx4 hx5 hx6 hx7 hx8 hx9 hx10
    have jc := quiet_of_fr HF5.out KC.out
    have jt := quiet_of_fr HF5.out KT.out
    have js := quiet_of_fr HF5.out KS.out
    have hv : v = true ∨ v = false := Bool.eq_false_or_eq_true v
    rcases hv with rfl | rfl
    all_goals
      refine wp_region_quiet_below (by kernel_rfl) (by kernel_rfl) ?_
      repeat (go_big_quiet_step (with_reducible (first | exact jc _ _ | exact jt _ _ | exact js _ _)))
      refine wpQuiet_nil ?_
      intro _ hw'
      obtain ⟨⟨dq, osq⟩, hw''⟩ := hw'
      subst hw''
      go_wp2_with fail
      go_meet
      exact ⟨rfl, HF5.out.trans (fr_regrown _ dq osq)⟩
  case rest =>
    obtain ⟨rfl, hfw⟩ := hcut
    clear HT HF5
    have HFW := Lib.hid hfw
    clear hfw
    obtain ⟨⟨hx1, hx2⟩, ⟨hx3, hx4⟩, ⟨hx5, hx6⟩, hx7, hx8⟩ := HC.out _ HFW.out
    have hmo := KMO.out _ HFW.out
    go_wp2_with fail
    refine hmo.mono ?_
    rintro e w6 ⟨a1, l1, k1, a2, l2, k2, rfl, hmr, hf⟩
    have hfm : Fr [] w6 (w6.alloc (.cells #[.slice a1 l1 k1, .slice a2 l2 k2] 35)) := (Fr.refl [] w6).alloc _
    have hcm : ∀ w', Fr [] (w6.alloc (.cells #[.slice a1 l1 k1, .slice a2 l2 k2] 35)) w' → w'.cell? ⟨w6.heap.size, 0, none⟩ = some (.slice a1 l1 k1) ∧ w'.cell? ⟨w6.heap.size, 1, none⟩ = some (.slice a2 l2 k2) := fun w' h => by
      have hb := h.keep (heap_alloc_last w6 (.cells #[.slice a1 l1 k1, .slice a2 l2 k2] 35)) (by simp)
      exact ⟨by rw [box_cell hb]; rfl, by rw [box_cell hb]; rfl⟩
    have HF6 := Lib.hid ((HFW.out.trans hf).trans hfm); have HM := Lib.hid hcm; have HMR := Lib.hid hmr
    have HFM : Hid (Fr [] w6 (w6.alloc (.cells #[.slice a1 l1 k1, .slice a2 l2 k2] 35))) := Lib.hid hfm
    clear hf hfm hcm hmr HFW hmo hx1 hx2 hx3 hx4 hx5 hx6 hx7 hx8
    go_upto_region 7 with fail
    obtain ⟨wm, hwm⟩ : ∃ x, w6.alloc (.cells #[.slice a1 l1 k1, .slice a2 l2 k2] 35) = x := ⟨_, rfl⟩
    obtain ⟨gm, hgm⟩ : ∃ g, w6.heap.size = g := ⟨_, rfl⟩
    rw [hwm] at HF6 HM HFM ⊢
    rw [hgm] at HM ⊢
    go_cut [98] (fun x wx => x = .bool false ∧ Fr [] ((((w.alloc (.cells #[.slice fa n1 fc, .slice fb n2 fd] 26)).alloc (.cells #[.slice ta n3 tc, .slice tb n4 td] 26)).alloc (.cells #[.slice ap n5 cp, .slice am n6 cm] 35)).alloc (.cells #[.slice bp n7 dp, .slice bm n8 dm] 35)) wx)
    case first =>
      have HFW := HF6
      have HFX : Hid (Fr [] wm wm) := Lib.hid (Fr.refl [] _)
      obtain ⟨⟨hx1, hx2⟩, ⟨hx3, hx4⟩, ⟨hx5, hx6⟩, hx7, hx8⟩ := HC.out _ HFW.out
      obtain ⟨hy1, hy2⟩ := HM.out _ HFX.out
      have hr : r = true ∨ r = false := Bool.eq_false_or_eq_true r
      rcases hr with rfl | rfl
      · obtain ⟨⟨rfl, hr1⟩, rfl, hr2⟩ := HMR.out.1 rfl
        have RJ := Lib.hid (And.intro (hr1.keep HFM.out) (hr2.keep HFM.out))
        clear hr1 hr2 HMR HFM HF6 hwm hgm
        have hv : v = true ∨ v = false := Bool.eq_false_or_eq_true v
        rcases hv with rfl | rfl
        · obtain rfl : vm = true := HM1.out rfl
          go_wp2_with fail
          refine (KC.out _ HFW.out).mono ?_
          rintro e wq ⟨rfl, hf⟩
          have HFW' := Lib.hid (HFW.out.trans hf); have HFX' := Lib.hid (HFX.out.trans hf)
          clear hf HFW HFX hx1 hx2 hx3 hx4 hx5 hx6 hx7 hx8 hy1 hy2
          have HFW := HFW'; have HFX := HFX'
          clear HFW' HFX'
          obtain ⟨⟨hx1, hx2⟩, ⟨hx3, hx4⟩, ⟨hx5, hx6⟩, hx7, hx8⟩ := HC.out _ HFW.out
          obtain ⟨hy1, hy2⟩ := HM.out _ HFX.out
          go_wp2_with fail
          refine (KXJ.out _ _ _ _ _ HFW.out (RJ.out.1.keep HFX.out) (RJ.out.2.keep HFX.out)).mono ?_
          rintro e wq ⟨rfl, hf⟩
          have HFW' := Lib.hid (HFW.out.trans hf); have HFX' := Lib.hid (HFX.out.trans hf)
          clear hf HFW HFX hx1 hx2 hx3 hx4 hx5 hx6 hx7 hx8 hy1 hy2
          have HFW := HFW'; have HFX := HFX'
          clear HFW' HFX'
          obtain ⟨⟨hx1, hx2⟩, ⟨hx3, hx4⟩, ⟨hx5, hx6⟩, hx7, hx8⟩ := HC.out _ HFW.out
          obtain ⟨hy1, hy2⟩ := HM.out _ HFX.out
          go_wp2_with fail
          refine (KW1.out _ _ _ _ _ HFW.out (RJ.out.1.keep HFX.out) (RJ.out.2.keep HFX.out)).mono ?_
          rintro e wq ⟨rfl, hf⟩
          have HFW' := Lib.hid (HFW.out.trans hf); have HFX' := Lib.hid (HFX.out.trans hf)
          clear hf HFW HFX hx1 hx2 hx3 hx4 hx5 hx6 hx7 hx8 hy1 hy2
          have HFW := HFW'; have HFX := HFX'
          clear HFW' HFX'
          obtain ⟨⟨hx1, hx2⟩, ⟨hx3, hx4⟩, ⟨hx5, hx6⟩, hx7, hx8⟩ := HC.out _ HFW.out
          obtain ⟨hy1, hy2⟩ := HM.out _ HFX.out
          go_wp2_with fail
          refine (KW2.out _ _ _ _ _ HFW.out (RJ.out.1.keep HFX.out) (RJ.out.2.keep HFX.out)).mono ?_
          rintro e wq ⟨rfl, hf⟩
          have HFW' := Lib.hid (HFW.out.trans hf); have HFX' := Lib.hid (HFX.out.trans hf)
          clear hf HFW HFX hx1 hx2 hx3 hx4 hx5 hx6 hx7 hx8 hy1 hy2
          have HFW := HFW'; have HFX := HFX'
          clear HFW' HFX'
          obtain ⟨⟨hx1, hx2⟩, ⟨hx3, hx4⟩, ⟨hx5, hx6⟩, hx7, hx8⟩ := HC.out _ HFW.out
          obtain ⟨hy1, hy2⟩ := HM.out _ HFX.out
          go_wp2_with fail
          go_meet
          exact ⟨rfl, HFW.out⟩
        · go_wp2_with fail
          refine (KC.out _ HFW.out).mono ?_
          rintro e wq ⟨rfl, hf⟩
          have HFW' := Lib.hid (HFW.out.trans hf); have HFX' := Lib.hid (HFX.out.trans hf)
          clear hf HFW HFX hx1 hx2 hx3 hx4 hx5 hx6 hx7 hx8 hy1 hy2
          have HFW := HFW'; have HFX := HFX'
          clear HFW' HFX'
          obtain ⟨⟨hx1, hx2⟩, ⟨hx3, hx4⟩, ⟨hx5, hx6⟩, hx7, hx8⟩ := HC.out _ HFW.out
          obtain ⟨hy1, hy2⟩ := HM.out _ HFX.out
          go_wp2_with fail
          refine (KW1.out _ _ _ _ _ HFW.out (RJ.out.1.keep HFX.out) (RJ.out.2.keep HFX.out)).mono ?_
          rintro e wq ⟨rfl, hf⟩
          have HFW' := Lib.hid (HFW.out.trans hf); have HFX' := Lib.hid (HFX.out.trans hf)
          clear hf HFW HFX hx1 hx2 hx3 hx4 hx5 hx6 hx7 hx8 hy1 hy2
          have HFW := HFW'; have HFX := HFX'
          clear HFW' HFX'
          obtain ⟨⟨hx1, hx2⟩, ⟨hx3, hx4⟩, ⟨hx5, hx6⟩, hx7, hx8⟩ := HC.out _ HFW.out
          obtain ⟨hy1, hy2⟩ := HM.out _ HFX.out
          go_wp2_with fail
          refine (KW2.out _ _ _ _ _ HFW.out (RJ.out.1.keep HFX.out) (RJ.out.2.keep HFX.out)).mono ?_
          rintro e wq ⟨rfl, hf⟩
          have HFW' := Lib.hid (HFW.out.trans hf); have HFX' := Lib.hid (HFX.out.trans hf)
          clear hf HFW HFX hx1 hx2 hx3 hx4 hx5 hx6 hx7 hx8 hy1 hy2
          have HFW := HFW'; have HFX := HFX'
          clear HFW' HFX'
          obtain ⟨⟨hx1, hx2⟩, ⟨hx3, hx4⟩, ⟨hx5, hx6⟩, hx7, hx8⟩ := HC.out _ HFW.out
          obtain ⟨hy1, hy2⟩ := HM.out _ HFX.out
          go_wp2_with fail
          go_meet
          exact ⟨rfl, HFW.out⟩
      · clear HMR HFM HF6 hwm hgm
        go_wp2_with fail
        go_meet
        exact ⟨rfl, HFW.out⟩
    case rest =>
      obtain ⟨rfl, hfw⟩ := hcut
      clear HM HF6 HMR HFM hwm hgm
      have HFW := Lib.hid hfw
      clear hfw
      obtain ⟨⟨hx1, hx2⟩, ⟨hx3, hx4⟩, ⟨hx5, hx6⟩, hx7, hx8⟩ := HC.out _ HFW.out
      have hle := KLE.out _ HFW.out
      go_wp2_with fail
      refine hle.mono ?_
      rintro e w8 ⟨b1, b2, k3, k4, rfl, hr1, hr2, hf⟩
      obtain ⟨l3, hl3⟩ : ∃ k, x1.length = k := ⟨_, rfl⟩
      obtain ⟨l4, hl4⟩ : ∃ k, x2.length = k := ⟨_, rfl⟩
      have kxl := fun w' h1 h2 h3 => KXL.out w' b1 b2 k3 k4 h1 h2 h3
      have kw3 := fun w' h1 h2 h3 => KW3.out w' b1 b2 k3 k4 h1 h2 h3
      rw [hl3, hl4] at kxl kw3 ⊢
      have hfe : Fr [] w8 (w8.alloc (.cells #[.slice b1 l3 k3, .slice b2 l4 k4] 35)) := (Fr.refl [] w8).alloc _
      have hce : ∀ w', Fr [] (w8.alloc (.cells #[.slice b1 l3 k3, .slice b2 l4 k4] 35)) w' → w'.cell? ⟨w8.heap.size, 0, none⟩ = some (.slice b1 l3 k3) ∧ w'.cell? ⟨w8.heap.size, 1, none⟩ = some (.slice b2 l4 k4) := fun w' h => by
        have hb := h.keep (heap_alloc_last w8 (.cells #[.slice b1 l3 k3, .slice b2 l4 k4] 35)) (by simp)
        exact ⟨by rw [box_cell hb]; rfl, by rw [box_cell hb]; rfl⟩
      have RJ := Lib.hid (And.intro (hr1.keep hfe) (hr2.keep hfe))
      have HF8 := Lib.hid ((HFW.out.trans hf).trans hfe); have HM := Lib.hid hce; have KXL' := Lib.hid kxl; have KW3' := Lib.hid kw3
      clear hf hfe hce hr1 hr2 HFW hle hx1 hx2 hx3 hx4 hx5 hx6 hx7 hx8 kxl kw3 hl3 hl4 KXL KW3
      go_upto_region 10 with fail
      obtain ⟨we, hwe⟩ : ∃ x, w8.alloc (.cells #[.slice b1 l3 k3, .slice b2 l4 k4] 35) = x := ⟨_, rfl⟩
      obtain ⟨ge, hge⟩ : ∃ g, w8.heap.size = g := ⟨_, rfl⟩
      rw [hwe] at HF8 HM RJ ⊢
      rw [hge] at HM ⊢
      have HFW := HF8
      have HFX : Hid (Fr [] we we) := Lib.hid (Fr.refl [] _)
      obtain ⟨⟨hx1, hx2⟩, ⟨hx3, hx4⟩, ⟨hx5, hx6⟩, hx7, hx8⟩ := HC.out _ HFW.out
      obtain ⟨hy1, hy2⟩ := HM.out _ HFX.out
      clear HF8 hwe hge
      have hv : vl = true ∨ vl = false := Bool.eq_false_or_eq_true vl
      rcases hv with rfl | rfl
      · obtain rfl : v = true := HM2.out rfl
        go_wp2_with fail
        refine (KW3'.out _ HFW.out (RJ.out.1.keep HFX.out) (RJ.out.2.keep HFX.out)).mono ?_
        rintro e wq ⟨rfl, hf⟩
        have HFW' := Lib.hid (HFW.out.trans hf); have HFX' := Lib.hid (HFX.out.trans hf)
        clear hf HFW HFX hx1 hx2 hx3 hx4 hx5 hx6 hx7 hx8 hy1 hy2
        have HFW := HFW'; have HFX := HFX'
        clear HFW' HFX'
        obtain ⟨⟨hx1, hx2⟩, ⟨hx3, hx4⟩, ⟨hx5, hx6⟩, hx7, hx8⟩ := HC.out _ HFW.out
        obtain ⟨hy1, hy2⟩ := HM.out _ HFX.out
        go_wp2_with fail
        refine (KXL'.out _ HFW.out (RJ.out.1.keep HFX.out) (RJ.out.2.keep HFX.out)).mono ?_
        rintro e wq ⟨rfl, hf⟩
        have HFW' := Lib.hid (HFW.out.trans hf); have HFX' := Lib.hid (HFX.out.trans hf)
        clear hf HFW HFX hx1 hx2 hx3 hx4 hx5 hx6 hx7 hx8 hy1 hy2
        have HFW := HFW'; have HFX := HFX'
        clear HFW' HFX'
        obtain ⟨⟨hx1, hx2⟩, ⟨hx3, hx4⟩, ⟨hx5, hx6⟩, hx7, hx8⟩ := HC.out _ HFW.out
        obtain ⟨hy1, hy2⟩ := HM.out _ HFX.out
        go_wp2_with fail
        refine (KC.out _ HFW.out).mono ?_
        rintro e wq ⟨rfl, hf⟩
        have HFW' := Lib.hid (HFW.out.trans hf); have HFX' := Lib.hid (HFX.out.trans hf)
        clear hf HFW HFX hx1 hx2 hx3 hx4 hx5 hx6 hx7 hx8 hy1 hy2
        have HFW := HFW'; have HFX := HFX'
        clear HFW' HFX'
        obtain ⟨⟨hx1, hx2⟩, ⟨hx3, hx4⟩, ⟨hx5, hx6⟩, hx7, hx8⟩ := HC.out _ HFW.out
        obtain ⟨hy1, hy2⟩ := HM.out _ HFX.out
        go_wp2_with fail
        refine (awake_calls _).mono ?_
        rintro e w9 ⟨rfl, hf⟩
        have HZ := Lib.hid (HFF.out.trans (HFW.out.trans hf))
        clear hf HFW hx1 hx2 hx3 hx4 hx5 hx6 hx7 hx8 hy1 hy2
        go_wp2_with fail
        go_ret
        exact ⟨rfl, HZ.out⟩
      · go_wp2_with fail
        refine (KW3'.out _ HFW.out (RJ.out.1.keep HFX.out) (RJ.out.2.keep HFX.out)).mono ?_
        rintro e wq ⟨rfl, hf⟩
        have HFW' := Lib.hid (HFW.out.trans hf); have HFX' := Lib.hid (HFX.out.trans hf)
        clear hf HFW HFX hx1 hx2 hx3 hx4 hx5 hx6 hx7 hx8 hy1 hy2
        have HFW := HFW'; have HFX := HFX'
        clear HFW' HFX'
        obtain ⟨⟨hx1, hx2⟩, ⟨hx3, hx4⟩, ⟨hx5, hx6⟩, hx7, hx8⟩ := HC.out _ HFW.out
        obtain ⟨hy1, hy2⟩ := HM.out _ HFX.out
        go_wp2_with fail
        refine (KXL'.out _ HFW.out (RJ.out.1.keep HFX.out) (RJ.out.2.keep HFX.out)).mono ?_
        rintro e wq ⟨rfl, hf⟩
        have HFW' := Lib.hid (HFW.out.trans hf); have HFX' := Lib.hid (HFX.out.trans hf)
        clear hf HFW HFX hx1 hx2 hx3 hx4 hx5 hx6 hx7 hx8 hy1 hy2
        have HFW := HFW'; have HFX := HFX'
        clear HFW' HFX'
        obtain ⟨⟨hx1, hx2⟩, ⟨hx3, hx4⟩, ⟨hx5, hx6⟩, hx7, hx8⟩ := HC.out _ HFW.out
        obtain ⟨hy1, hy2⟩ := HM.out _ HFX.out
        go_wp2_with fail
        refine (awake_calls _).mono ?_
        rintro e w9 ⟨rfl, hf⟩
        have HZ := Lib.hid (HFF.out.trans (HFW.out.trans hf))
        clear hf HFW hx1 hx2 hx3 hx4 hx5 hx6 hx7 hx8 hy1 hy2
        go_wp2_with fail
        go_ret
        exact ⟨rfl, HZ.out⟩
theorem back_calls (w : World) (fa fb ta tb ap am bp bm : Option Addr) (fc fd tc td cp cm dp dm : Nat) (fs fi ts ti p m q o : List Int) (h1 : RdI w fa fc fs) (h2 : RdI w fb fd fi) (h3 : RdI w ta tc ts) (h4 : RdI w tb td ti) (h5 : RdI w ap cp p) (h6 : RdI w am cm m) (h7 : RdI w bp dp q) (h8 : RdI w bm dm o) :
    Calls Try.prog 8 #[.agg #[.slice fa fs.length fc, .slice fb fi.length fd], .agg #[.slice ta ts.length tc, .slice tb ti.length td], .agg #[.slice ap p.length cp, .slice am m.length cm], .agg #[.slice bp q.length dp, .slice bm o.length dm]] w fun e w' => e = .returned (.bool true) ∧ Fr [] w w' := by
  rcases Bool.eq_false_or_eq_true (setB fs && setB fi) with m1 | m1
  rotate_left 1
  · exact back_no1 w fa fb ta tb ap am bp bm fc fd tc td cp cm dp dm fs fi ts ti p m q o h1 h2 h3 h4 h5 h6 h7 h8 m1
  rcases Bool.eq_false_or_eq_true (setB ts && setB ti) with m2 | m2
  rotate_left 1
  · exact back_no2 w fa fb ta tb ap am bp bm fc fd tc td cp cm dp dm fs fi ts ti p m q o h1 h2 h3 h4 h5 h6 h7 h8 m1 m2
  rcases Bool.eq_false_or_eq_true (setB p) with m3 | m3
  rotate_left 1
  · exact back_no3 w fa fb ta tb ap am bp bm fc fd tc td cp cm dp dm fs fi ts ti p m q o h1 h2 h3 h4 h5 h6 h7 h8 m1 m2 m3
  rcases Bool.eq_false_or_eq_true (setB m) with m4 | m4
  rotate_left 1
  · exact back_no4 w fa fb ta tb ap am bp bm fc fd tc td cp cm dp dm fs fi ts ti p m q o h1 h2 h3 h4 h5 h6 h7 h8 m1 m2 m3 m4
  rcases Bool.eq_false_or_eq_true (setB q) with m5 | m5
  rotate_left 1
  · exact back_no5 w fa fb ta tb ap am bp bm fc fd tc td cp cm dp dm fs fi ts ti p m q o h1 h2 h3 h4 h5 h6 h7 h8 m1 m2 m3 m4 m5
  rcases Bool.eq_false_or_eq_true (setB o) with m6 | m6
  rotate_left 1
  · exact back_no6 w fa fb ta tb ap am bp bm fc fd tc td cp cm dp dm fs fi ts ti p m q o h1 h2 h3 h4 h5 h6 h7 h8 m1 m2 m3 m4 m5 m6
  exact back_yes w fa fb ta tb ap am bp bm fc fd tc td cp cm dp dm fs fi ts ti p m q o h1 h2 h3 h4 h5 h6 h7 h8 m1 m2 m3 m4 m5 m6
end Go.Proofs.Ytdbhppfpalpfmaa
