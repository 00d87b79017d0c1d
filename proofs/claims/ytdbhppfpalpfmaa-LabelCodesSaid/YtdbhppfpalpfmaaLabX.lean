/-
  Within; Less of one kind.
-/
import Derived.Test.YtdbhppfpalpfmaaLabOrd
namespace Go.Proofs.Ytdbhppfpalpfmaa
open Go.RowKit Go.MapKept
set_option maxRecDepth 100000 in
set_option maxHeartbeats 2000000 in
theorem less1_plus (w : World) (B1 B2 : Nat) (ap am bp bm : Option Addr) (cp cm dp dm : Nat) (p m q o : List Int) (h1 : RdI w ap cp p) (h2 : RdI w am cm m) (h3 : RdI w bp dp q) (h4 : RdI w bm dm o) (hb1 : w.heap[B1]? = some (.cells #[.slice ap p.length cp, .slice am m.length cm] 35 (0, 0))) (hb2 : w.heap[B2]? = some (.cells #[.slice bp q.length dp, .slice bm o.length dm] 35 (0, 0))) :
    Calls Try.prog 59 #[.func (.func 57) #[] #[], .pointer (some ⟨B1, 0, none⟩), .pointer (some ⟨B2, 0, none⟩)] w fun e w' => ∃ ad cap, e = .returned (.slice ad (lessB p q).length cap) ∧ RdI w' ad cap (lessB p q) ∧ Fr [] w w' := by
  have hwo : ∀ w', Fr [] w w' → Calls Try.prog 60 #[.slice ap p.length cp, .slice bp q.length dp] w' _ :=
    fun w' hf => without_calls w' ap bp cp dp p q (h1.keep hf) (h3.keep hf)
  have hc : ∀ w', Fr [] w w' → (w'.cell? ⟨B1, 0, none⟩ = some (.slice ap p.length cp) ∧ w'.cell? ⟨B1, 1, none⟩ = some (.slice am m.length cm)) ∧ (w'.cell? ⟨B2, 0, none⟩ = some (.slice bp q.length dp) ∧ w'.cell? ⟨B2, 1, none⟩ = some (.slice bm o.length dm)) := fun w' hf => by
    have e1 := hf.keep hb1 (by simp)
    have e2 := hf.keep hb2 (by simp)
    exact ⟨⟨by rw [box_cell e1]; rfl, by rw [box_cell e1]; rfl⟩, by rw [box_cell e2]; rfl, by rw [box_cell e2]; rfl⟩
  obtain ⟨⟨hc1, hc2⟩, hc3, hc4⟩ := hc w (Fr.refl _ _)
  have HWO := Lib.hid hwo; have HC := Lib.hid hc
  clear hwo hc h1 h2 h3 h4 hb1 hb2
  generalize lessB p q = lo at *
  generalize p.length = np at *
  generalize m.length = nm at *
  generalize q.length = nq at *
  generalize o.length = no at *
  go_enter Try.func59, Try.ntmps59
  go_wp2_with fail
  go_region_with (first
    | (go_at_call 57; (with_reducible refine (plus_fr _ ap am np nm cp cm).mono ?_); rintro e w1 ⟨rfl, hf1⟩; obtain ⟨⟨hd1, hd2⟩, hd3, hd4⟩ := HC.out w1 ((Fr.refl [] _).drew.trans hf1))
    | (go_at_call 57; (with_reducible refine (plus_fr _ bp bm nq no dp dm).mono ?_); rintro e w2 ⟨rfl, hf2⟩)
    | (go_at_call 60; (with_reducible refine (HWO.out _ ?_).mono ?_); exact ((Fr.refl [] _).drew.trans hf1).trans hf2; rintro e w3 ⟨ad, cap, rfl, hr, hf3⟩))
  all_goals
    have HH := Lib.hid (((Fr.refl [] _).drew.trans hf1).trans (hf2.trans hf3))
    have HR := Lib.hid hr
    clear hf1 hf2 hf3 hr
    go_wp2_with fail
    go_ret
    exact ⟨ad, cap, rfl, HR.out, HH.out⟩
set_option maxRecDepth 100000 in
set_option maxHeartbeats 2000000 in
theorem less1_minus (w : World) (B1 B2 : Nat) (ap am bp bm : Option Addr) (cp cm dp dm : Nat) (p m q o : List Int) (h1 : RdI w ap cp p) (h2 : RdI w am cm m) (h3 : RdI w bp dp q) (h4 : RdI w bm dm o) (hb1 : w.heap[B1]? = some (.cells #[.slice ap p.length cp, .slice am m.length cm] 35 (0, 0))) (hb2 : w.heap[B2]? = some (.cells #[.slice bp q.length dp, .slice bm o.length dm] 35 (0, 0))) :
    Calls Try.prog 59 #[.func (.func 58) #[] #[], .pointer (some ⟨B1, 0, none⟩), .pointer (some ⟨B2, 0, none⟩)] w fun e w' => ∃ ad cap, e = .returned (.slice ad (lessB m o).length cap) ∧ RdI w' ad cap (lessB m o) ∧ Fr [] w w' := by
  have hwo : ∀ w', Fr [] w w' → Calls Try.prog 60 #[.slice am m.length cm, .slice bm o.length dm] w' _ :=
    fun w' hf => without_calls w' am bm cm dm m o (h2.keep hf) (h4.keep hf)
  have hc : ∀ w', Fr [] w w' → (w'.cell? ⟨B1, 0, none⟩ = some (.slice ap p.length cp) ∧ w'.cell? ⟨B1, 1, none⟩ = some (.slice am m.length cm)) ∧ (w'.cell? ⟨B2, 0, none⟩ = some (.slice bp q.length dp) ∧ w'.cell? ⟨B2, 1, none⟩ = some (.slice bm o.length dm)) := fun w' hf => by
    have e1 := hf.keep hb1 (by simp)
    have e2 := hf.keep hb2 (by simp)
    exact ⟨⟨by rw [box_cell e1]; rfl, by rw [box_cell e1]; rfl⟩, by rw [box_cell e2]; rfl, by rw [box_cell e2]; rfl⟩
  obtain ⟨⟨hc1, hc2⟩, hc3, hc4⟩ := hc w (Fr.refl _ _)
  have HWO := Lib.hid hwo; have HC := Lib.hid hc
  clear hwo hc h1 h2 h3 h4 hb1 hb2
  generalize lessB m o = lo at *
  generalize p.length = np at *
  generalize m.length = nm at *
  generalize q.length = nq at *
  generalize o.length = no at *
  go_enter Try.func59, Try.ntmps59
  go_wp2_with fail
  go_region_with (first
    | (go_at_call 58; (with_reducible refine (minus_fr _ ap am np nm cp cm).mono ?_); rintro e w1 ⟨rfl, hf1⟩; obtain ⟨⟨hd1, hd2⟩, hd3, hd4⟩ := HC.out w1 ((Fr.refl [] _).drew.trans hf1))
    | (go_at_call 58; (with_reducible refine (minus_fr _ bp bm nq no dp dm).mono ?_); rintro e w2 ⟨rfl, hf2⟩)
    | (go_at_call 60; (with_reducible refine (HWO.out _ ?_).mono ?_); exact ((Fr.refl [] _).drew.trans hf1).trans hf2; rintro e w3 ⟨ad, cap, rfl, hr, hf3⟩))
  all_goals
    have HH := Lib.hid (((Fr.refl [] _).drew.trans hf1).trans (hf2.trans hf3))
    have HR := Lib.hid hr
    clear hf1 hf2 hf3 hr
    go_wp2_with fail
    go_ret
    exact ⟨ad, cap, rfl, HR.out, HH.out⟩
end Go.Proofs.Ytdbhppfpalpfmaa
