/-
  More: of one kind; of both.
-/
import Derived.Test.YtdbhppfpalpfmaaLabY
namespace Go.Proofs.Ytdbhppfpalpfmaa
open Go.RowKit Go.MapKept
/-- What comes of one kind: both joined, where that is a set; else none. -/
def MoreQ (w : World) (ad : Option Addr) (n cap : Nat) (r : Bool) (lo : List Int) : Prop :=
  (r = true → n = lo.length ∧ RdI w ad cap lo) ∧ (r = false → ad = none ∧ n = 0 ∧ cap = 0)
theorem MoreQ.keepB {w w' : World} {B : Nat} {vs : Array Value} {T : TypeId} {fr : Nat × Nat} {ad : Option Addr} {n cap : Nat} {r : Bool} {lo : List Int} (h : MoreQ w ad n cap r lo) (hf : Fr [B] w w') (hb : w.heap[B]? = some (.cells vs T fr)) (hv : NoInt vs) : MoreQ w' ad n cap r lo :=
  ⟨fun e => ⟨(h.1 e).1, (h.1 e).2.keepB hf hb hv⟩, h.2⟩
set_option maxRecDepth 100000 in
set_option maxHeartbeats 4000000 in
theorem more1_plus (w : World) (B1 B2 B3 : Nat) (ap am bp bm : Option Addr) (cp cm dp dm : Nat) (p m q o : List Int) (h1 : RdI w ap cp p) (h2 : RdI w am cm m) (h3 : RdI w bp dp q) (h4 : RdI w bm dm o) (sp : setB p = true) (sm : setB m = true) (sq : setB q = true) (so : setB o = true) (r0 : Bool) (hb1 : w.heap[B1]? = some (.cells #[.slice ap p.length cp, .slice am m.length cm] 35 (0, 0))) (hb2 : w.heap[B2]? = some (.cells #[.slice bp q.length dp, .slice bm o.length dm] 35 (0, 0))) (hb3 : w.heap[B3]? = some (.cells #[.bool r0] 4 (0, 0))) :
    Calls Try.prog 55 #[.func (.func 57) #[] #[], .pointer (some ⟨B1, 0, none⟩), .pointer (some ⟨B2, 0, none⟩), .pointer (some ⟨B3, 0, none⟩)] w fun e w' => ∃ ad n cap, e = .returned (.slice ad n cap) ∧ MoreQ w' ad n cap (setB (joinB p q)) (joinB p q) ∧ Fr [B3] w w' ∧ w'.heap[B3]? = some (.cells #[.bool (r0 && setB (joinB p q))] 4 (0, 0)) := by
  have hwo : ∀ w', Fr [] w w' → Calls Try.prog 15 #[.slice ap p.length cp, .slice bp q.length dp] w' _ :=
    fun w' hf => join_sets w' ap bp cp dp p q (h1.keep hf) (h3.keep hf) sp sq (setB (joinB p q)) rfl
  have hc : ∀ w', Fr [] w w' → (w'.cell? ⟨B1, 0, none⟩ = some (.slice ap p.length cp) ∧ w'.cell? ⟨B1, 1, none⟩ = some (.slice am m.length cm)) ∧ (w'.cell? ⟨B2, 0, none⟩ = some (.slice bp q.length dp) ∧ w'.cell? ⟨B2, 1, none⟩ = some (.slice bm o.length dm)) := fun w' hf => by
    have e1 := hf.keep hb1 (by simp)
    have e2 := hf.keep hb2 (by simp)
    exact ⟨⟨by rw [box_cell e1]; rfl, by rw [box_cell e1]; rfl⟩, by rw [box_cell e2]; rfl, by rw [box_cell e2]; rfl⟩
  obtain ⟨⟨hc1, hc2⟩, hc3, hc4⟩ := hc w (Fr.refl _ _)
  have HWO := Lib.hid hwo; have HC := Lib.hid hc; have HB3 := Lib.hid hb3
  clear hwo hc h1 h2 h3 h4 hb1 hb2 hb3 sp sm sq so
  generalize setB (joinB p q) = r at *
  generalize joinB p q = lo at *
  generalize p.length = np at *
  generalize m.length = nm at *
  generalize q.length = nq at *
  generalize o.length = no at *
  go_enter Try.func55, Try.ntmps55
  go_wp2_with fail
  go_region_with (first
    | (go_at_call 57; (with_reducible refine (plus_fr _ ap am np nm cp cm).mono ?_); rintro e w1 ⟨rfl, hf1⟩; obtain ⟨⟨hd1, hd2⟩, hd3, hd4⟩ := HC.out w1 ((Fr.refl [] _).drew.trans hf1))
    | (go_at_call 57; (with_reducible refine (plus_fr _ bp bm nq no dp dm).mono ?_); rintro e w2 ⟨rfl, hf2⟩)
    | (go_at_call 15; (with_reducible refine (HWO.out _ ?_).mono ?_); exact ((Fr.refl [] _).drew.trans hf1).trans hf2; rintro e w3 ⟨ad, cap, rfl, hr, hf3⟩))
  all_goals
    have hh := ((Fr.refl [] _).drew.trans hf1).trans (hf2.trans hf3)
    have hb := hh.keep HB3.out (by simp)
    have hk0 := box_cell hb 0
    have hk1 := box_free hb 0
    simp only [List.getElem?_toArray, List.getElem?_cons_zero] at hk0
    have HH := Lib.hid hh; have HR := Lib.hid hr; have HB := Lib.hid hb
    clear hf1 hf2 hf3 hr hh hb
    try clear hd1 hd2 hd3 hd4
    cases r0 <;> cases r
    all_goals
      go_wp2_with fail
      refine bodyPost_ret (v := .slice _ _ _) (by simp [results, Try.f55, go_sem]; exact ⟨rfl, rfl, rfl⟩) rfl ⟨_, _, _, rfl, ?_, ?_, ?_⟩
      · first
          | exact ⟨fun _ => ⟨rfl, HR.out.keepB ((Fr.refl [B3] _).setCell (.inl (by simp)) _) HB.out (noInt_bool _)⟩, fun h => by cases h⟩
          | exact ⟨(fun h => by cases h), fun _ => ⟨rfl, rfl, rfl⟩⟩
      · exact (HH.out.mono (by simp)).setCell (.inl (by simp)) _
      · have := box_set HB.out 0; simpa using this _
set_option maxRecDepth 100000 in
set_option maxHeartbeats 4000000 in
theorem more1_minus (w : World) (B1 B2 B3 : Nat) (ap am bp bm : Option Addr) (cp cm dp dm : Nat) (p m q o : List Int) (h1 : RdI w ap cp p) (h2 : RdI w am cm m) (h3 : RdI w bp dp q) (h4 : RdI w bm dm o) (sp : setB p = true) (sm : setB m = true) (sq : setB q = true) (so : setB o = true) (r0 : Bool) (hb1 : w.heap[B1]? = some (.cells #[.slice ap p.length cp, .slice am m.length cm] 35 (0, 0))) (hb2 : w.heap[B2]? = some (.cells #[.slice bp q.length dp, .slice bm o.length dm] 35 (0, 0))) (hb3 : w.heap[B3]? = some (.cells #[.bool r0] 4 (0, 0))) :
    Calls Try.prog 55 #[.func (.func 58) #[] #[], .pointer (some ⟨B1, 0, none⟩), .pointer (some ⟨B2, 0, none⟩), .pointer (some ⟨B3, 0, none⟩)] w fun e w' => ∃ ad n cap, e = .returned (.slice ad n cap) ∧ MoreQ w' ad n cap (setB (joinB m o)) (joinB m o) ∧ Fr [B3] w w' ∧ w'.heap[B3]? = some (.cells #[.bool (r0 && setB (joinB m o))] 4 (0, 0)) := by
  have hwo : ∀ w', Fr [] w w' → Calls Try.prog 15 #[.slice am m.length cm, .slice bm o.length dm] w' _ :=
    fun w' hf => join_sets w' am bm cm dm m o (h2.keep hf) (h4.keep hf) sm so (setB (joinB m o)) rfl
  have hc : ∀ w', Fr [] w w' → (w'.cell? ⟨B1, 0, none⟩ = some (.slice ap p.length cp) ∧ w'.cell? ⟨B1, 1, none⟩ = some (.slice am m.length cm)) ∧ (w'.cell? ⟨B2, 0, none⟩ = some (.slice bp q.length dp) ∧ w'.cell? ⟨B2, 1, none⟩ = some (.slice bm o.length dm)) := fun w' hf => by
    have e1 := hf.keep hb1 (by simp)
    have e2 := hf.keep hb2 (by simp)
    exact ⟨⟨by rw [box_cell e1]; rfl, by rw [box_cell e1]; rfl⟩, by rw [box_cell e2]; rfl, by rw [box_cell e2]; rfl⟩
  obtain ⟨⟨hc1, hc2⟩, hc3, hc4⟩ := hc w (Fr.refl _ _)
  have HWO := Lib.hid hwo; have HC := Lib.hid hc; have HB3 := Lib.hid hb3
  clear hwo hc h1 h2 h3 h4 hb1 hb2 hb3 sp sm sq so
  generalize setB (joinB m o) = r at *
  generalize joinB m o = lo at *
  generalize p.length = np at *
  generalize m.length = nm at *
  generalize q.length = nq at *
  generalize o.length = no at *
  go_enter Try.func55, Try.ntmps55
  go_wp2_with fail
  go_region_with (first
    | (go_at_call 58; (with_reducible refine (minus_fr _ ap am np nm cp cm).mono ?_); rintro e w1 ⟨rfl, hf1⟩; obtain ⟨⟨hd1, hd2⟩, hd3, hd4⟩ := HC.out w1 ((Fr.refl [] _).drew.trans hf1))
    | (go_at_call 58; (with_reducible refine (minus_fr _ bp bm nq no dp dm).mono ?_); rintro e w2 ⟨rfl, hf2⟩)
    | (go_at_call 15; (with_reducible refine (HWO.out _ ?_).mono ?_); exact ((Fr.refl [] _).drew.trans hf1).trans hf2; rintro e w3 ⟨ad, cap, rfl, hr, hf3⟩))
  all_goals
    have hh := ((Fr.refl [] _).drew.trans hf1).trans (hf2.trans hf3)
    have hb := hh.keep HB3.out (by simp)
    have hk0 := box_cell hb 0
    have hk1 := box_free hb 0
    simp only [List.getElem?_toArray, List.getElem?_cons_zero] at hk0
    have HH := Lib.hid hh; have HR := Lib.hid hr; have HB := Lib.hid hb
    clear hf1 hf2 hf3 hr hh hb
    try clear hd1 hd2 hd3 hd4
    cases r0 <;> cases r
    all_goals
      go_wp2_with fail
      refine bodyPost_ret (v := .slice _ _ _) (by simp [results, Try.f55, go_sem]; exact ⟨rfl, rfl, rfl⟩) rfl ⟨_, _, _, rfl, ?_, ?_, ?_⟩
      · first
          | exact ⟨fun _ => ⟨rfl, HR.out.keepB ((Fr.refl [B3] _).setCell (.inl (by simp)) _) HB.out (noInt_bool _)⟩, fun h => by cases h⟩
          | exact ⟨(fun h => by cases h), fun _ => ⟨rfl, rfl, rfl⟩⟩
      · exact (HH.out.mono (by simp)).setCell (.inl (by simp)) _
      · have := box_set HB.out 0; simpa using this _
end Go.Proofs.Ytdbhppfpalpfmaa
