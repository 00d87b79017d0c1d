/-
  Within.
-/
import Derived.Test.YtdbhppfpalpfmaaLabX
namespace Go.Proofs.Ytdbhppfpalpfmaa
open Go.RowKit Go.MapKept
def withinB (p m q o : List Int) : Bool := subB p q && subB m o
set_option maxRecDepth 100000 in
set_option maxHeartbeats 4000000 in
theorem within_calls (w : World) (ap am bp bm : Option Addr) (cp cm dp dm : Nat) (p m q o : List Int) (h1 : RdI w ap cp p) (h2 : RdI w am cm m) (h3 : RdI w bp dp q) (h4 : RdI w bm dm o) :
    Calls Try.prog 33 #[.agg #[.slice ap p.length cp, .slice am m.length cm], .agg #[.slice bp q.length dp, .slice bm o.length dm]] w fun e w' => e = .returned (.bool (withinB p m q o)) ∧ Fr [] w w' := by
  have hF : Fr [] w ((w.alloc (.cells #[.slice ap p.length cp, .slice am m.length cm] 35)).alloc (.cells #[.slice bp q.length dp, .slice bm o.length dm] 35)) := ((Fr.refl [] w).alloc _).alloc _
  have hc : ∀ w', Fr [] ((w.alloc (.cells #[.slice ap p.length cp, .slice am m.length cm] 35)).alloc (.cells #[.slice bp q.length dp, .slice bm o.length dm] 35)) w' → (w'.cell? ⟨w.heap.size, 0, none⟩ = some (.slice ap p.length cp) ∧ w'.cell? ⟨w.heap.size, 1, none⟩ = some (.slice am m.length cm)) ∧ (w'.cell? ⟨w.heap.size + 1, 0, none⟩ = some (.slice bp q.length dp) ∧ w'.cell? ⟨w.heap.size + 1, 1, none⟩ = some (.slice bm o.length dm)) := fun w' hf => by
    obtain ⟨e1, e2⟩ := two_boxes hf
    exact ⟨⟨by rw [box_cell e1]; rfl, by rw [box_cell e1]; rfl⟩, by rw [box_cell e2]; rfl, by rw [box_cell e2]; rfl⟩
  have s1 : ∀ w', Fr [] ((w.alloc (.cells #[.slice ap p.length cp, .slice am m.length cm] 35)).alloc (.cells #[.slice bp q.length dp, .slice bm o.length dm] 35)) w' → Calls Try.prog 20 #[.slice ap p.length cp, .slice bp q.length dp] w' _ := fun w' hf => sub_calls w' ap bp cp dp p q (h1.keep (hF.trans hf)) (h3.keep (hF.trans hf))
  have s2 : ∀ w', Fr [] ((w.alloc (.cells #[.slice ap p.length cp, .slice am m.length cm] 35)).alloc (.cells #[.slice bp q.length dp, .slice bm o.length dm] 35)) w' → Calls Try.prog 20 #[.slice am m.length cm, .slice bm o.length dm] w' _ := fun w' hf => sub_calls w' am bm cm dm m o (h2.keep (hF.trans hf)) (h4.keep (hF.trans hf))
  have K1a : Hid (∀ w', Fr [] ((w.alloc (.cells #[.slice ap p.length cp, .slice am m.length cm] 35)).alloc (.cells #[.slice bp q.length dp, .slice bm o.length dm] 35)) w' → _) := Lib.hid (fun w' _ => plus_fr w' ap am p.length m.length cp cm)
  have K1b : Hid (∀ w', Fr [] ((w.alloc (.cells #[.slice ap p.length cp, .slice am m.length cm] 35)).alloc (.cells #[.slice bp q.length dp, .slice bm o.length dm] 35)) w' → _) := Lib.hid (fun w' _ => plus_fr w' bp bm q.length o.length dp dm)
  have K2a : Hid (∀ w', Fr [] ((w.alloc (.cells #[.slice ap p.length cp, .slice am m.length cm] 35)).alloc (.cells #[.slice bp q.length dp, .slice bm o.length dm] 35)) w' → _) := Lib.hid (fun w' _ => minus_fr w' ap am p.length m.length cp cm)
  have K2b : Hid (∀ w', Fr [] ((w.alloc (.cells #[.slice ap p.length cp, .slice am m.length cm] 35)).alloc (.cells #[.slice bp q.length dp, .slice bm o.length dm] 35)) w' → _) := Lib.hid (fun w' _ => minus_fr w' bp bm q.length o.length dp dm)
  unfold withinB
  have HF := Lib.hid hF; have HC := Lib.hid hc; have S1 := Lib.hid s1; have S2 := Lib.hid s2
  clear hF hc s1 s2 h1 h2 h3 h4
  generalize subB p q = r1 at *
  generalize subB m o = r2 at *
  generalize p.length = np at *
  generalize m.length = nm at *
  generalize q.length = nq at *
  generalize o.length = no at *
  have i0 : ∀ w, (Instr.index 78 (.agg #[.func (.func 57) #[] #[], .func (.func 58) #[] #[]]) (.int .i64 0)).run Try.prog w = .ok (.func (.func 57) #[] #[]) w := fun _ => by kernel_rfl
  have i1 : ∀ w, (Instr.index 78 (.agg #[.func (.func 57) #[] #[], .func (.func 58) #[] #[]]) (.int .i64 1)).run Try.prog w = .ok (.func (.func 58) #[] #[]) w := fun _ => by kernel_rfl
  have e1 : Hid (r1 = true ∨ r1 = false) := Lib.hid (Bool.eq_false_or_eq_true r1)
  have e2 : Hid (r2 = true ∨ r2 = false) := Lib.hid (Bool.eq_false_or_eq_true r2)
  go_enter Try.func33, Try.ntmps33
  go_wp2_with fail
  go_loopw [8] (fun v8 wr => ∃ k : Nat, k ≤ 2 ∧ v8 = .int .i64 k ∧ Fr [] ((w.alloc (.cells #[.slice ap np cp, .slice am nm cm] 35)).alloc (.cells #[.slice bp nq dp, .slice bm no dm] 35)) wr ∧ Hid (1 ≤ k → r1 = true) ∧ Hid (2 ≤ k → r2 = true)) (fun v8 _ => 2 - (intOf v8).toNat)
  case atStart => exact ⟨0, by omega, rfl, Fr.refl _ _, Lib.hid (by omega), Lib.hid (by omega)⟩
  case round =>
    obtain ⟨k, hk, rfl, hfr, HR1, HR2⟩ := hrel
    have hsz := hfr.size
    obtain ⟨⟨hx1, hx2⟩, hx3, hx4⟩ := HC.out wr hfr
    rcases (by omega : k = 0 ∨ k = 1 ∨ k = 2) with rfl | rfl | rfl
    · rcases e1.out with rfl | rfl
      · have q1 := cell_regrown hx1; have q2 := cell_regrown hx2; have q3 := cell_regrown hx3; have q4 := cell_regrown hx4
        have k1 := quiet_of_fr hfr K1a.out
        have k2 := quiet_of_fr hfr K1b.out
        have k3 := quiet_of_fr hfr S1.out
        have HFR := Lib.hid hfr
        clear hfr hx1 hx2 hx3 hx4
        go_wp2_with fail
        refine wp_region_quiet_below (by kernel_rfl) (by kernel_rfl) ?_
        repeat (go_big_quiet_step (with_reducible (first | exact k1 _ _ | exact k2 _ _ | exact k3 _ _)))
        refine wpQuiet_nil ?_
        intro _ hw'
        obtain ⟨⟨dq, osq⟩, hw''⟩ := hw'
        subst hw''
        have HF2 := Lib.hid (HFR.out.trans (fr_regrown wr dq osq))
        clear q1 q2 q3 q4 k1 k2 k3
        go_wp2_with fail
        go_roundw
        case rel => exact ⟨1, by omega, by go_num, HF2.out, Lib.hid (by simp), Lib.hid (by omega)⟩
        case measure => simp [intOf]
      · have q1 := cell_regrown hx1; have q2 := cell_regrown hx2; have q3 := cell_regrown hx3; have q4 := cell_regrown hx4
        have k1 := quiet_of_fr hfr K1a.out
        have k2 := quiet_of_fr hfr K1b.out
        have k3 := quiet_of_fr hfr S1.out
        have HFR := Lib.hid hfr
        clear hfr hx1 hx2 hx3 hx4
        go_wp2_with fail
        refine wp_region_quiet_below (by kernel_rfl) (by kernel_rfl) ?_
        repeat (go_big_quiet_step (with_reducible (first | exact k1 _ _ | exact k2 _ _ | exact k3 _ _)))
        refine wpQuiet_nil ?_
        intro _ hw'
        obtain ⟨⟨dq, osq⟩, hw''⟩ := hw'
        subst hw''
        have HF2 := Lib.hid (HFR.out.trans (fr_regrown wr dq osq))
        clear q1 q2 q3 q4 k1 k2 k3
        go_wp2_with fail
        go_ret
        exact ⟨by simp, HF.out.trans HF2.out⟩
    · obtain rfl := HR1.out (by omega)
      rcases e2.out with rfl | rfl
      · have q1 := cell_regrown hx1; have q2 := cell_regrown hx2; have q3 := cell_regrown hx3; have q4 := cell_regrown hx4
        have k1 := quiet_of_fr hfr K2a.out
        have k2 := quiet_of_fr hfr K2b.out
        have k3 := quiet_of_fr hfr S2.out
        have HFR := Lib.hid hfr
        clear hfr hx1 hx2 hx3 hx4
        go_wp2_with fail
        refine wp_region_quiet_below (by kernel_rfl) (by kernel_rfl) ?_
        repeat (go_big_quiet_step (with_reducible (first | exact k1 _ _ | exact k2 _ _ | exact k3 _ _)))
        refine wpQuiet_nil ?_
        intro _ hw'
        obtain ⟨⟨dq, osq⟩, hw''⟩ := hw'
        subst hw''
        have HF2 := Lib.hid (HFR.out.trans (fr_regrown wr dq osq))
        clear q1 q2 q3 q4 k1 k2 k3
        go_wp2_with fail
        go_roundw
        case rel => exact ⟨2, by omega, by go_num, HF2.out, Lib.hid (by simp), Lib.hid (by simp)⟩
        case measure => simp [intOf]
      · have q1 := cell_regrown hx1; have q2 := cell_regrown hx2; have q3 := cell_regrown hx3; have q4 := cell_regrown hx4
        have k1 := quiet_of_fr hfr K2a.out
        have k2 := quiet_of_fr hfr K2b.out
        have k3 := quiet_of_fr hfr S2.out
        have HFR := Lib.hid hfr
        clear hfr hx1 hx2 hx3 hx4
        go_wp2_with fail
        refine wp_region_quiet_below (by kernel_rfl) (by kernel_rfl) ?_
        repeat (go_big_quiet_step (with_reducible (first | exact k1 _ _ | exact k2 _ _ | exact k3 _ _)))
        refine wpQuiet_nil ?_
        intro _ hw'
        obtain ⟨⟨dq, osq⟩, hw''⟩ := hw'
        subst hw''
        have HF2 := Lib.hid (HFR.out.trans (fr_regrown wr dq osq))
        clear q1 q2 q3 q4 k1 k2 k3
        go_wp2_with fail
        go_ret
        exact ⟨by simp, HF.out.trans HF2.out⟩
    · obtain rfl := HR1.out (by omega)
      obtain rfl := HR2.out (by omega)
      have HFR := Lib.hid hfr
      clear hfr hx1 hx2 hx3 hx4
      go_wp2_with fail
      go_ret
      exact ⟨by simp, HF.out.trans HFR.out⟩
end Go.Proofs.Ytdbhppfpalpfmaa
