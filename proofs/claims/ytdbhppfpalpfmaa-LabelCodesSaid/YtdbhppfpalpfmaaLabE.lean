/-
  What is allowed: of one kind of capabilities.
-/
import Derived.Test.YtdbhppfpalpfmaaLabC
namespace Go.Proofs.Ytdbhppfpalpfmaa
open Go.RowKit Go.MapKept
theorem plus_fr (w : World) (a1 a2 : Option Addr) (n1 n2 c1 c2 : Nat) : Calls Try.prog 57 #[.agg #[.slice a1 n1 c1, .slice a2 n2 c2]] w fun e w' => e = .returned (.slice a1 n1 c1) ∧ Fr [] w w' :=
  (plus_calls w _ _ rfl rfl a1 a2 n1 n2 c1 c2 rfl rfl).mono fun e w' ⟨he, hw⟩ => ⟨he, by rw [hw]; exact (Fr.refl [] w).alloc _⟩
theorem minus_fr (w : World) (a1 a2 : Option Addr) (n1 n2 c1 c2 : Nat) : Calls Try.prog 58 #[.agg #[.slice a1 n1 c1, .slice a2 n2 c2]] w fun e w' => e = .returned (.slice a2 n2 c2) ∧ Fr [] w w' :=
  (minus_calls w _ _ rfl rfl a1 a2 n1 n2 c1 c2 rfl rfl).mono fun e w' ⟨he, hw⟩ => ⟨he, by rw [hw]; exact (Fr.refl [] w).alloc _⟩
theorem heap_alloc_last (w : World) (o : Obj) : (w.alloc o).heap[w.heap.size]? = some o := World.alloc_heap_new w o
set_option maxRecDepth 100000 in
set_option maxHeartbeats 2000000 in
theorem allowed_plus (w : World) (a1 a2 ap am : Option Addr) (c1 c2 cp cm : Nat) (l o p m : List Int) (h1 : RdI w a1 c1 l) (h2 : RdI w a2 c2 o) (hp : RdI w ap cp p) (hm : RdI w am cm m) :
    Calls Try.prog 56 #[.slice a1 l.length c1, .slice a2 o.length c2, .agg #[.slice ap p.length cp, .slice am m.length cm], .func (.func 57) #[] #[]] w fun e w' => e = .returned (.bool (subB (lessB l o) p)) ∧ Fr [] w w' := by
  have hF : Fr [] w (w.alloc (.cells #[.slice ap p.length cp, .slice am m.length cm] 35)) := (Fr.refl [] w).alloc _
  have hwo : ∀ w', Fr [] (w.alloc (.cells #[.slice ap p.length cp, .slice am m.length cm] 35)) w' → Calls Try.prog 60 #[.slice a1 l.length c1, .slice a2 o.length c2] w' _ :=
    fun w' hf => without_calls w' a1 a2 c1 c2 l o (h1.keep (hF.trans hf)) (h2.keep (hF.trans hf))
  have hc : ∀ w', Fr [] (w.alloc (.cells #[.slice ap p.length cp, .slice am m.length cm] 35)) w' → w'.cell? ⟨w.heap.size, 0, none⟩ = some (.slice ap p.length cp) ∧ w'.cell? ⟨w.heap.size, 1, none⟩ = some (.slice am m.length cm) := fun w' hf => by
    have hb := hf.keep (heap_alloc_last w (.cells #[.slice ap p.length cp, .slice am m.length cm] 35)) (by simp)
    exact ⟨by rw [box_cell hb]; rfl, by rw [box_cell hb]; rfl⟩
  have hsu : ∀ w' ad cap, Fr [] w w' → RdI w' ad cap (lessB l o) → Calls Try.prog 20 #[.slice ad (lessB l o).length cap, .slice ap p.length cp] w' _ :=
    fun w' ad cap hf hr => sub_calls w' ad ap cap cp (lessB l o) p hr (hp.keep hf)
  have HWO := Lib.hid hwo; have HC := Lib.hid hc; have HSU := Lib.hid hsu; have HF := Lib.hid hF
  clear hwo hc hsu hF h1 h2 hp hm
  generalize subB (lessB l o) p = rr at *
  generalize lessB l o = lo at *
  generalize p.length = np at *
  generalize m.length = nm at *
  go_enter Try.func56, Try.ntmps56
  go_wp2_with fail
  go_region_with (first
    | (go_at_call 60; (with_reducible refine (HWO.out _ ?_).mono ?_); exact (Fr.refl [] _).drew; rintro e w1 ⟨ad, cap, rfl, hr, hf⟩; obtain ⟨hc0, hc1⟩ := HC.out w1 ((Fr.refl [] _).drew.trans hf))
    | (go_at_call 57; (with_reducible refine (plus_fr _ _ _ _ _ _ _).mono ?_); rintro e w2 ⟨rfl, hf2⟩)
    | (go_at_call 20; (with_reducible refine (HSU.out _ _ _ ?_ ?_).mono ?_); exact (HF.out.trans (Fr.refl [] _).drew).trans (hf.trans hf2); exact hr.keep hf2; rintro e w3 ⟨rfl, hf3⟩))
  all_goals
    have HH := Lib.hid (((HF.out.trans (Fr.refl [] _).drew).trans (hf.trans hf2)).trans hf3)
    clear hf hf2 hf3 hr
    go_wp2_with fail
    go_ret
    exact ⟨rfl, HH.out⟩
set_option maxRecDepth 100000 in
set_option maxHeartbeats 2000000 in
theorem allowed_minus (w : World) (a1 a2 ap am : Option Addr) (c1 c2 cp cm : Nat) (l o p m : List Int) (h1 : RdI w a1 c1 l) (h2 : RdI w a2 c2 o) (hp : RdI w ap cp p) (hm : RdI w am cm m) :
    Calls Try.prog 56 #[.slice a1 l.length c1, .slice a2 o.length c2, .agg #[.slice ap p.length cp, .slice am m.length cm], .func (.func 58) #[] #[]] w fun e w' => e = .returned (.bool (subB (lessB l o) m)) ∧ Fr [] w w' := by
  have hF : Fr [] w (w.alloc (.cells #[.slice ap p.length cp, .slice am m.length cm] 35)) := (Fr.refl [] w).alloc _
  have hwo : ∀ w', Fr [] (w.alloc (.cells #[.slice ap p.length cp, .slice am m.length cm] 35)) w' → Calls Try.prog 60 #[.slice a1 l.length c1, .slice a2 o.length c2] w' _ :=
    fun w' hf => without_calls w' a1 a2 c1 c2 l o (h1.keep (hF.trans hf)) (h2.keep (hF.trans hf))
  have hc : ∀ w', Fr [] (w.alloc (.cells #[.slice ap p.length cp, .slice am m.length cm] 35)) w' → w'.cell? ⟨w.heap.size, 0, none⟩ = some (.slice ap p.length cp) ∧ w'.cell? ⟨w.heap.size, 1, none⟩ = some (.slice am m.length cm) := fun w' hf => by
    have hb := hf.keep (heap_alloc_last w (.cells #[.slice ap p.length cp, .slice am m.length cm] 35)) (by simp)
    exact ⟨by rw [box_cell hb]; rfl, by rw [box_cell hb]; rfl⟩
  have hsu : ∀ w' ad cap, Fr [] w w' → RdI w' ad cap (lessB l o) → Calls Try.prog 20 #[.slice ad (lessB l o).length cap, .slice am m.length cm] w' _ :=
    fun w' ad cap hf hr => sub_calls w' ad am cap cm (lessB l o) m hr (hm.keep hf)
  have HWO := Lib.hid hwo; have HC := Lib.hid hc; have HSU := Lib.hid hsu; have HF := Lib.hid hF
  clear hwo hc hsu hF h1 h2 hp hm
  generalize subB (lessB l o) m = rr at *
  generalize lessB l o = lo at *
  generalize p.length = np at *
  generalize m.length = nm at *
  go_enter Try.func56, Try.ntmps56
  go_wp2_with fail
  go_region_with (first
    | (go_at_call 60; (with_reducible refine (HWO.out _ ?_).mono ?_); exact (Fr.refl [] _).drew; rintro e w1 ⟨ad, cap, rfl, hr, hf⟩; obtain ⟨hc0, hc1⟩ := HC.out w1 ((Fr.refl [] _).drew.trans hf))
    | (go_at_call 58; (with_reducible refine (minus_fr _ _ _ _ _ _ _).mono ?_); rintro e w2 ⟨rfl, hf2⟩)
    | (go_at_call 20; (with_reducible refine (HSU.out _ _ _ ?_ ?_).mono ?_); exact (HF.out.trans (Fr.refl [] _).drew).trans (hf.trans hf2); exact hr.keep hf2; rintro e w3 ⟨rfl, hf3⟩))
  all_goals
    have HH := Lib.hid (((HF.out.trans (Fr.refl [] _).drew).trans (hf.trans hf2)).trans hf3)
    clear hf hf2 hf3 hr
    go_wp2_with fail
    go_ret
    exact ⟨rfl, HH.out⟩
end Go.Proofs.Ytdbhppfpalpfmaa
