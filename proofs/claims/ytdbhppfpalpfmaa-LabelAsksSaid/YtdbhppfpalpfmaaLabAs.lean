/-
  LabelAsks: where labels and capabilities may all be.
-/
import Derived.Test.YtdbhppfpalpfmaaLabAs0
import Derived.Test.YtdbhppfpalpfmaaLabZ
import Derived.Test.YtdbhppfpalpfmaaLabS
import Derived.Deep.RegionHeld3
namespace Go.Proofs.Ytdbhppfpalpfmaa
open Go.RowKit Go.MapKept
theorem eqB_refl (a : List Int) : eqB a a = true := decide_eq_true rfl
theorem same_eq {s i t j : List Int} (s1 : setB s = true) (s2 : setB i = true) (s3 : setB t = true) (s4 : setB j = true) : (flowsB s i t j && flowsB t j s i) = (eqB s t && eqB i j) := by
  unfold flowsB eqB
  rw [Bool.eq_iff_iff]
  simp only [Bool.and_eq_true, subB_iff, decide_eq_true_iff]
  constructor
  · rintro ⟨⟨h1, h2⟩, h3, h4⟩
    exact ⟨lt_ext (setB_lt s1) (setB_lt s3) (fun x => ⟨h1 x, h3 x⟩), lt_ext (setB_lt s2) (setB_lt s4) (fun x => ⟨h4 x, h2 x⟩)⟩
  · rintro ⟨rfl, rfl⟩
    exact ⟨⟨fun x h => h, fun x h => h⟩, fun x h => h, fun x h => h⟩
theorem joinR_sets {p q : List Int} (sp : setB p = true) (sq : setB q = true) : joinR p q = setB (joinB p q) := by
  unfold joinR; rw [sp, sq]; rfl
theorem joinZ_sets {p q : List Int} (sp : setB p = true) (sq : setB q = true) (h : setB (joinB p q) = true) : joinZ p q = joinB p q := by
  unfold joinZ; rw [joinR_sets sp sq, h]; rfl
theorem moreR_keep {w w' : World} {a1 a2 : Option Addr} {n1 k1 n2 k2 : Nat} {r : Bool} {j1 j2 : List Int} (h : MoreR w a1 n1 k1 a2 n2 k2 r j1 j2) (hf : Fr [] w w') : MoreR w' a1 n1 k1 a2 n2 k2 r j1 j2 :=
  ⟨fun e => ⟨⟨(h.1 e).1.1, (h.1 e).1.2.keep hf⟩, (h.1 e).2.1, (h.1 e).2.2.keep hf⟩, h.2⟩
theorem moreB_keep {w w' : World} {a1 a2 : Option Addr} {n1 k1 n2 k2 : Nat} {r : Bool} {j1 j2 : List Int} (h : MoreB w a1 n1 k1 a2 n2 k2 r j1 j2) (hf : Fr [] w w') : MoreB w' a1 n1 k1 a2 n2 k2 r j1 j2 :=
  ⟨fun e => ⟨⟨(h.1 e).1.1, (h.1 e).1.2.keep hf⟩, (h.1 e).2.1, (h.1 e).2.2.keep hf⟩, h.2⟩
theorem same_less (w : World) (a1 a2 b1 b2 : Option Addr) (c1 c2 d1 d2 : Nat) (x y : List Int) (h1 : RdI w a1 c1 x) (h2 : RdI w a2 c2 y) (h3 : RdI w b1 d1 x) (h4 : RdI w b2 d2 y) :
    Calls Try.prog 35 #[.agg #[.slice a1 x.length c1, .slice a2 y.length c2], .agg #[.slice b1 x.length d1, .slice b2 y.length d2]] w fun e w' => e = .returned (.bool true) ∧ Fr [] w w' := by
  have := rsamecaps_calls w a1 a2 b1 b2 c1 c2 d1 d2 x y x y h1 h2 h3 h4
  rw [eqB_refl, eqB_refl] at this
  exact this
theorem same_more {p q m o : List Int} (sp : setB p = true) (sm : setB m = true) (sq : setB q = true) (so : setB o = true) (w : World) (a1 a2 b1 b2 : Option Addr) (n1 k1 n2 k2 m1 l1 m2 l2 : Nat)
    (hR : MoreR w a1 n1 k1 a2 n2 k2 (setB (joinB p q) && setB (joinB m o)) (joinB p q) (joinB m o)) (hB : MoreB w b1 m1 l1 b2 m2 l2 (joinR p q && joinR m o) (joinZ p q) (joinZ m o)) :
    Calls Try.prog 35 #[.agg #[.slice a1 n1 k1, .slice a2 n2 k2], .agg #[.slice b1 m1 l1, .slice b2 m2 l2]] w fun e w' => e = .returned (.bool true) ∧ Fr [] w w' := by
  rw [joinR_sets sp sq, joinR_sets sm so] at hB
  cases hr : (setB (joinB p q) && setB (joinB m o)) with
  | true =>
    have ⟨r1, r2⟩ : setB (joinB p q) = true ∧ setB (joinB m o) = true := by simpa using hr
    rw [joinZ_sets sp sq r1, joinZ_sets sm so r2] at hB
    obtain ⟨⟨rfl, g1⟩, rfl, g2⟩ := hR.1 hr
    obtain ⟨⟨rfl, g3⟩, rfl, g4⟩ := hB.1 hr
    exact same_less w a1 a2 b1 b2 k1 k2 l1 l2 _ _ g1 g2 g3 g4
  | false =>
    obtain ⟨rfl, rfl, rfl, rfl, rfl, rfl⟩ := hR.2 hr
    obtain ⟨rfl, rfl, rfl, rfl, rfl, rfl⟩ := hB.2 hr
    exact same_less w none none none none 0 0 0 0 [] [] (nil_rdI w) (nil_rdI w) (nil_rdI w) (nil_rdI w)
set_option maxRecDepth 100000 in
set_option maxHeartbeats 8000000 in
theorem asks_yes (w : World) (a1 a2 b1 b2 p1 p2 q1 q2 t1 : Option Addr) (c1 d1 c2 d2 k1 k2 l1 l2 ct : Nat) (s1 i1 s2 i2 p m q o tt : List Int) (h1 : RdI w a1 c1 s1) (h2 : RdI w a2 d1 i1) (h3 : RdI w b1 c2 s2) (h4 : RdI w b2 d2 i2) (h5 : RdI w p1 k1 p) (h6 : RdI w p2 k2 m) (h7 : RdI w q1 l1 q) (h8 : RdI w q2 l2 o) (h9 : RdI w t1 ct tt) (z5 : p1 = none → k1 = 0) (z6 : p2 = none → k2 = 0) (z7 : q1 = none → l1 = 0) (z8 : q2 = none → l2 = 0) (m1 : setB s1 = true) (m2 : setB i1 = true) (m3 : setB s2 = true) (m4 : setB i2 = true) (m5 : setB p = true) (m6 : setB m = true) (m7 : setB q = true) (m8 : setB o = true) :
    Calls Try.prog 5 #[.agg #[.slice a1 s1.length c1, .slice a2 i1.length d1], .agg #[.slice b1 s2.length c2, .slice b2 i2.length d2], .agg #[.slice p1 p.length k1, .slice p2 m.length k2], .agg #[.slice q1 q.length l1, .slice q2 o.length l2], .slice t1 tt.length ct] w fun e w' => e = .returned (.bool true) ∧ Fr [] w w' := by
  have hF : Fr [] w ((((w.alloc (.cells #[.slice a1 s1.length c1, .slice a2 i1.length d1] 26)).alloc (.cells #[.slice b1 s2.length c2, .slice b2 i2.length d2] 26)).alloc (.cells #[.slice p1 p.length k1, .slice p2 m.length k2] 35)).alloc (.cells #[.slice q1 q.length l1, .slice q2 o.length l2] 35)) := ((((Fr.refl [] w).alloc _).alloc _).alloc _).alloc _
  have HC : Hid (∀ w', Fr [] ((((w.alloc (.cells #[.slice a1 s1.length c1, .slice a2 i1.length d1] 26)).alloc (.cells #[.slice b1 s2.length c2, .slice b2 i2.length d2] 26)).alloc (.cells #[.slice p1 p.length k1, .slice p2 m.length k2] 35)).alloc (.cells #[.slice q1 q.length l1, .slice q2 o.length l2] 35)) w' → (w'.cell? ⟨w.heap.size, 0, none⟩ = some (.slice a1 s1.length c1) ∧ w'.cell? ⟨w.heap.size, 1, none⟩ = some (.slice a2 i1.length d1)) ∧ (w'.cell? ⟨w.heap.size + 1, 0, none⟩ = some (.slice b1 s2.length c2) ∧ w'.cell? ⟨w.heap.size + 1, 1, none⟩ = some (.slice b2 i2.length d2)) ∧ (w'.cell? ⟨w.heap.size + 1 + 1, 0, none⟩ = some (.slice p1 p.length k1) ∧ w'.cell? ⟨w.heap.size + 1 + 1, 1, none⟩ = some (.slice p2 m.length k2)) ∧ (w'.cell? ⟨w.heap.size + 1 + 1 + 1, 0, none⟩ = some (.slice q1 q.length l1) ∧ w'.cell? ⟨w.heap.size + 1 + 1 + 1, 1, none⟩ = some (.slice q2 o.length l2))) := Lib.hid (fun w' hf => by
    obtain ⟨hb1, hb2, hb3, hb4⟩ := four_boxes hf
    exact ⟨⟨by rw [box_cell hb1]; rfl, by rw [box_cell hb1]; rfl⟩, ⟨by rw [box_cell hb2]; rfl, by rw [box_cell hb2]; rfl⟩, ⟨by rw [box_cell hb3]; rfl, by rw [box_cell hb3]; rfl⟩, by rw [box_cell hb4]; rfl, by rw [box_cell hb4]; rfl⟩)
  have HR1 : Hid (∀ w', Fr [] ((((w.alloc (.cells #[.slice a1 s1.length c1, .slice a2 i1.length d1] 26)).alloc (.cells #[.slice b1 s2.length c2, .slice b2 i2.length d2] 26)).alloc (.cells #[.slice p1 p.length k1, .slice p2 m.length k2] 35)).alloc (.cells #[.slice q1 q.length l1, .slice q2 o.length l2] 35)) w' → Calls Try.prog 22 #[.agg #[.slice a1 s1.length c1, .slice a2 i1.length d1]] w' _) := Lib.hid (fun w' hf => rmay_calls w' a1 a2 c1 d1 s1 i1 (h1.keep (hF.trans hf)) (h2.keep (hF.trans hf)))
  have HR2 : Hid (∀ w', Fr [] ((((w.alloc (.cells #[.slice a1 s1.length c1, .slice a2 i1.length d1] 26)).alloc (.cells #[.slice b1 s2.length c2, .slice b2 i2.length d2] 26)).alloc (.cells #[.slice p1 p.length k1, .slice p2 m.length k2] 35)).alloc (.cells #[.slice q1 q.length l1, .slice q2 o.length l2] 35)) w' → Calls Try.prog 22 #[.agg #[.slice b1 s2.length c2, .slice b2 i2.length d2]] w' _) := Lib.hid (fun w' hf => rmay_calls w' b1 b2 c2 d2 s2 i2 (h3.keep (hF.trans hf)) (h4.keep (hF.trans hf)))
  have HR3 : Hid (∀ w', Fr [] ((((w.alloc (.cells #[.slice a1 s1.length c1, .slice a2 i1.length d1] 26)).alloc (.cells #[.slice b1 s2.length c2, .slice b2 i2.length d2] 26)).alloc (.cells #[.slice p1 p.length k1, .slice p2 m.length k2] 35)).alloc (.cells #[.slice q1 q.length l1, .slice q2 o.length l2] 35)) w' → Calls Try.prog 22 #[.agg #[.slice p1 p.length k1, .slice p2 m.length k2]] w' _) := Lib.hid (fun w' hf => rmay_calls w' p1 p2 k1 k2 p m (h5.keep (hF.trans hf)) (h6.keep (hF.trans hf)))
  have HR4 : Hid (∀ w', Fr [] ((((w.alloc (.cells #[.slice a1 s1.length c1, .slice a2 i1.length d1] 26)).alloc (.cells #[.slice b1 s2.length c2, .slice b2 i2.length d2] 26)).alloc (.cells #[.slice p1 p.length k1, .slice p2 m.length k2] 35)).alloc (.cells #[.slice q1 q.length l1, .slice q2 o.length l2] 35)) w' → Calls Try.prog 22 #[.agg #[.slice q1 q.length l1, .slice q2 o.length l2]] w' _) := Lib.hid (fun w' hf => rmay_calls w' q1 q2 l1 l2 q o (h7.keep (hF.trans hf)) (h8.keep (hF.trans hf)))
  have HL1 : Hid (∀ w', Fr [] ((((w.alloc (.cells #[.slice a1 s1.length c1, .slice a2 i1.length d1] 26)).alloc (.cells #[.slice b1 s2.length c2, .slice b2 i2.length d2] 26)).alloc (.cells #[.slice p1 p.length k1, .slice p2 m.length k2] 35)).alloc (.cells #[.slice q1 q.length l1, .slice q2 o.length l2] 35)) w' → Calls Try.prog 10 #[.agg #[.slice a1 s1.length c1, .slice a2 i1.length d1]] w' _) := Lib.hid (fun w' hf => may_calls w' a1 a2 c1 d1 s1 i1 (h1.keep (hF.trans hf)) (h2.keep (hF.trans hf)))
  have KS : Hid (∀ w', Fr [] ((((w.alloc (.cells #[.slice a1 s1.length c1, .slice a2 i1.length d1] 26)).alloc (.cells #[.slice b1 s2.length c2, .slice b2 i2.length d2] 26)).alloc (.cells #[.slice p1 p.length k1, .slice p2 m.length k2] 35)).alloc (.cells #[.slice q1 q.length l1, .slice q2 o.length l2] 35)) w' → Calls Try.prog 25 #[.agg #[.slice a1 s1.length c1, .slice a2 i1.length d1], .agg #[.slice b1 s2.length c2, .slice b2 i2.length d2]] w' _) := Lib.hid (fun w' hf => same_calls w' a1 a2 b1 b2 c1 d1 c2 d2 s1 i1 s2 i2 (h1.keep (hF.trans hf)) (h2.keep (hF.trans hf)) (h3.keep (hF.trans hf)) (h4.keep (hF.trans hf)))
  have RS : Hid (∀ w', Fr [] ((((w.alloc (.cells #[.slice a1 s1.length c1, .slice a2 i1.length d1] 26)).alloc (.cells #[.slice b1 s2.length c2, .slice b2 i2.length d2] 26)).alloc (.cells #[.slice p1 p.length k1, .slice p2 m.length k2] 35)).alloc (.cells #[.slice q1 q.length l1, .slice q2 o.length l2] 35)) w' → Calls Try.prog 26 #[.agg #[.slice a1 s1.length c1, .slice a2 i1.length d1], .agg #[.slice b1 s2.length c2, .slice b2 i2.length d2]] w' _) := Lib.hid (fun w' hf => rsame_calls w' a1 a2 b1 b2 c1 d1 c2 d2 s1 i1 s2 i2 (h1.keep (hF.trans hf)) (h2.keep (hF.trans hf)) (h3.keep (hF.trans hf)) (h4.keep (hF.trans hf)))
  have KF : Hid (∀ w', Fr [] ((((w.alloc (.cells #[.slice a1 s1.length c1, .slice a2 i1.length d1] 26)).alloc (.cells #[.slice b1 s2.length c2, .slice b2 i2.length d2] 26)).alloc (.cells #[.slice p1 p.length k1, .slice p2 m.length k2] 35)).alloc (.cells #[.slice q1 q.length l1, .slice q2 o.length l2] 35)) w' → Calls Try.prog 27 #[.agg #[.slice a1 s1.length c1, .slice a2 i1.length d1], .agg #[.slice b1 s2.length c2, .slice b2 i2.length d2]] w' _) := Lib.hid (fun w' hf => flows_calls w' a1 a2 b1 b2 c1 d1 c2 d2 s1 i1 s2 i2 (h1.keep (hF.trans hf)) (h2.keep (hF.trans hf)) (h3.keep (hF.trans hf)) (h4.keep (hF.trans hf)))
  have RF : Hid (∀ w', Fr [] ((((w.alloc (.cells #[.slice a1 s1.length c1, .slice a2 i1.length d1] 26)).alloc (.cells #[.slice b1 s2.length c2, .slice b2 i2.length d2] 26)).alloc (.cells #[.slice p1 p.length k1, .slice p2 m.length k2] 35)).alloc (.cells #[.slice q1 q.length l1, .slice q2 o.length l2] 35)) w' → Calls Try.prog 28 #[.agg #[.slice a1 s1.length c1, .slice a2 i1.length d1], .agg #[.slice b1 s2.length c2, .slice b2 i2.length d2]] w' _) := Lib.hid (fun w' hf => rflows_calls w' a1 a2 b1 b2 c1 d1 c2 d2 s1 i1 s2 i2 (h1.keep (hF.trans hf)) (h2.keep (hF.trans hf)) (h3.keep (hF.trans hf)) (h4.keep (hF.trans hf)))
  have KA : Hid (∀ w', Fr [] ((((w.alloc (.cells #[.slice a1 s1.length c1, .slice a2 i1.length d1] 26)).alloc (.cells #[.slice b1 s2.length c2, .slice b2 i2.length d2] 26)).alloc (.cells #[.slice p1 p.length k1, .slice p2 m.length k2] 35)).alloc (.cells #[.slice q1 q.length l1, .slice q2 o.length l2] 35)) w' → Calls Try.prog 29 #[.slice a1 s1.length c1, .slice b1 s2.length c2, .agg #[.slice p1 p.length k1, .slice p2 m.length k2]] w' _) := Lib.hid (fun w' hf => safe_calls w' a1 b1 p1 p2 c1 c2 k1 k2 s1 s2 p m (h1.keep (hF.trans hf)) (h3.keep (hF.trans hf)) (h5.keep (hF.trans hf)) (h6.keep (hF.trans hf)))
  have RA : Hid (∀ w', Fr [] ((((w.alloc (.cells #[.slice a1 s1.length c1, .slice a2 i1.length d1] 26)).alloc (.cells #[.slice b1 s2.length c2, .slice b2 i2.length d2] 26)).alloc (.cells #[.slice p1 p.length k1, .slice p2 m.length k2] 35)).alloc (.cells #[.slice q1 q.length l1, .slice q2 o.length l2] 35)) w' → Calls Try.prog 30 #[.slice a1 s1.length c1, .slice b1 s2.length c2, .agg #[.slice p1 p.length k1, .slice p2 m.length k2]] w' _) := Lib.hid (fun w' hf => rsafe_calls w' a1 b1 p1 p2 c1 c2 k1 k2 s1 s2 p m (h1.keep (hF.trans hf)) (h3.keep (hF.trans hf)) (h5.keep (hF.trans hf)) (h6.keep (hF.trans hf)))
  have KH : Hid (∀ w', Fr [] ((((w.alloc (.cells #[.slice a1 s1.length c1, .slice a2 i1.length d1] 26)).alloc (.cells #[.slice b1 s2.length c2, .slice b2 i2.length d2] 26)).alloc (.cells #[.slice p1 p.length k1, .slice p2 m.length k2] 35)).alloc (.cells #[.slice q1 q.length l1, .slice q2 o.length l2] 35)) w' → Calls Try.prog 31 #[.agg #[.slice a1 s1.length c1, .slice a2 i1.length d1], .agg #[.slice b1 s2.length c2, .slice b2 i2.length d2], .agg #[.slice p1 p.length k1, .slice p2 m.length k2]] w' _) := Lib.hid (fun w' hf => change_calls w' a1 a2 b1 b2 p1 p2 c1 d1 c2 d2 k1 k2 s1 i1 s2 i2 p m (h1.keep (hF.trans hf)) (h2.keep (hF.trans hf)) (h3.keep (hF.trans hf)) (h4.keep (hF.trans hf)) (h5.keep (hF.trans hf)) (h6.keep (hF.trans hf)))
  have RH : Hid (∀ w', Fr [] ((((w.alloc (.cells #[.slice a1 s1.length c1, .slice a2 i1.length d1] 26)).alloc (.cells #[.slice b1 s2.length c2, .slice b2 i2.length d2] 26)).alloc (.cells #[.slice p1 p.length k1, .slice p2 m.length k2] 35)).alloc (.cells #[.slice q1 q.length l1, .slice q2 o.length l2] 35)) w' → Calls Try.prog 32 #[.agg #[.slice a1 s1.length c1, .slice a2 i1.length d1], .agg #[.slice b1 s2.length c2, .slice b2 i2.length d2], .agg #[.slice p1 p.length k1, .slice p2 m.length k2]] w' _) := Lib.hid (fun w' hf => rchange_calls w' a1 a2 b1 b2 p1 p2 c1 d1 c2 d2 k1 k2 s1 i1 s2 i2 p m (h1.keep (hF.trans hf)) (h2.keep (hF.trans hf)) (h3.keep (hF.trans hf)) (h4.keep (hF.trans hf)) (h5.keep (hF.trans hf)) (h6.keep (hF.trans hf)))
  have KW : Hid (∀ w', Fr [] ((((w.alloc (.cells #[.slice a1 s1.length c1, .slice a2 i1.length d1] 26)).alloc (.cells #[.slice b1 s2.length c2, .slice b2 i2.length d2] 26)).alloc (.cells #[.slice p1 p.length k1, .slice p2 m.length k2] 35)).alloc (.cells #[.slice q1 q.length l1, .slice q2 o.length l2] 35)) w' → Calls Try.prog 33 #[.agg #[.slice p1 p.length k1, .slice p2 m.length k2], .agg #[.slice q1 q.length l1, .slice q2 o.length l2]] w' _) := Lib.hid (fun w' hf => within_calls w' p1 p2 q1 q2 k1 k2 l1 l2 p m q o (h5.keep (hF.trans hf)) (h6.keep (hF.trans hf)) (h7.keep (hF.trans hf)) (h8.keep (hF.trans hf)))
  have RW : Hid (∀ w', Fr [] ((((w.alloc (.cells #[.slice a1 s1.length c1, .slice a2 i1.length d1] 26)).alloc (.cells #[.slice b1 s2.length c2, .slice b2 i2.length d2] 26)).alloc (.cells #[.slice p1 p.length k1, .slice p2 m.length k2] 35)).alloc (.cells #[.slice q1 q.length l1, .slice q2 o.length l2] 35)) w' → Calls Try.prog 34 #[.agg #[.slice p1 p.length k1, .slice p2 m.length k2], .agg #[.slice q1 q.length l1, .slice q2 o.length l2]] w' _) := Lib.hid (fun w' hf => rwithin_calls w' p1 p2 q1 q2 k1 k2 l1 l2 p m q o (h5.keep (hF.trans hf)) (h6.keep (hF.trans hf)) (h7.keep (hF.trans hf)) (h8.keep (hF.trans hf)))
  have KL : Hid (∀ w', Fr [] ((((w.alloc (.cells #[.slice a1 s1.length c1, .slice a2 i1.length d1] 26)).alloc (.cells #[.slice b1 s2.length c2, .slice b2 i2.length d2] 26)).alloc (.cells #[.slice p1 p.length k1, .slice p2 m.length k2] 35)).alloc (.cells #[.slice q1 q.length l1, .slice q2 o.length l2] 35)) w' → Calls Try.prog 36 #[.agg #[.slice p1 p.length k1, .slice p2 m.length k2], .agg #[.slice q1 q.length l1, .slice q2 o.length l2]] w' _) := Lib.hid (fun w' hf => less_calls w' p1 p2 q1 q2 k1 k2 l1 l2 p m q o (h5.keep (hF.trans hf)) (h6.keep (hF.trans hf)) (h7.keep (hF.trans hf)) (h8.keep (hF.trans hf)))
  have RL : Hid (∀ w', Fr [] ((((w.alloc (.cells #[.slice a1 s1.length c1, .slice a2 i1.length d1] 26)).alloc (.cells #[.slice b1 s2.length c2, .slice b2 i2.length d2] 26)).alloc (.cells #[.slice p1 p.length k1, .slice p2 m.length k2] 35)).alloc (.cells #[.slice q1 q.length l1, .slice q2 o.length l2] 35)) w' → Calls Try.prog 37 #[.agg #[.slice p1 p.length k1, .slice p2 m.length k2], .agg #[.slice q1 q.length l1, .slice q2 o.length l2]] w' _) := Lib.hid (fun w' hf => rless_calls w' p1 p2 q1 q2 k1 k2 l1 l2 p m q o (h5.keep (hF.trans hf)) (h6.keep (hF.trans hf)) (h7.keep (hF.trans hf)) (h8.keep (hF.trans hf)))
  have KO : Hid (∀ w', Fr [] ((((w.alloc (.cells #[.slice a1 s1.length c1, .slice a2 i1.length d1] 26)).alloc (.cells #[.slice b1 s2.length c2, .slice b2 i2.length d2] 26)).alloc (.cells #[.slice p1 p.length k1, .slice p2 m.length k2] 35)).alloc (.cells #[.slice q1 q.length l1, .slice q2 o.length l2] 35)) w' → Calls Try.prog 38 #[.agg #[.slice a1 s1.length c1, .slice a2 i1.length d1], .slice t1 tt.length ct] w' _) := Lib.hid (fun w' hf => low_calls w' a1 t1 c1 ct s1 tt (.slice a2 i1.length d1) rfl (h1.keep (hF.trans hf)) (h9.keep (hF.trans hf)))
  have RO : Hid (∀ w', Fr [] ((((w.alloc (.cells #[.slice a1 s1.length c1, .slice a2 i1.length d1] 26)).alloc (.cells #[.slice b1 s2.length c2, .slice b2 i2.length d2] 26)).alloc (.cells #[.slice p1 p.length k1, .slice p2 m.length k2] 35)).alloc (.cells #[.slice q1 q.length l1, .slice q2 o.length l2] 35)) w' → Calls Try.prog 39 #[.agg #[.slice a1 s1.length c1, .slice a2 i1.length d1], .slice t1 tt.length ct] w' _) := Lib.hid (fun w' hf => rlow_calls w' a1 t1 c1 ct s1 tt (.slice a2 i1.length d1) rfl (h1.keep (hF.trans hf)) (h9.keep (hF.trans hf)))
  have KM : Hid (∀ w', Fr [] ((((w.alloc (.cells #[.slice a1 s1.length c1, .slice a2 i1.length d1] 26)).alloc (.cells #[.slice b1 s2.length c2, .slice b2 i2.length d2] 26)).alloc (.cells #[.slice p1 p.length k1, .slice p2 m.length k2] 35)).alloc (.cells #[.slice q1 q.length l1, .slice q2 o.length l2] 35)) w' → Calls Try.prog 23 #[.agg #[.slice p1 p.length k1, .slice p2 m.length k2], .agg #[.slice q1 q.length l1, .slice q2 o.length l2]] w' _) := Lib.hid (fun w' hf => more_calls w' p1 p2 q1 q2 k1 k2 l1 l2 p m q o (h5.keep (hF.trans hf)) (h6.keep (hF.trans hf)) (h7.keep (hF.trans hf)) (h8.keep (hF.trans hf)) m5 m6 m7 m8)
  have RM : Hid (∀ w', Fr [] ((((w.alloc (.cells #[.slice a1 s1.length c1, .slice a2 i1.length d1] 26)).alloc (.cells #[.slice b1 s2.length c2, .slice b2 i2.length d2] 26)).alloc (.cells #[.slice p1 p.length k1, .slice p2 m.length k2] 35)).alloc (.cells #[.slice q1 q.length l1, .slice q2 o.length l2] 35)) w' → Calls Try.prog 24 #[.agg #[.slice p1 p.length k1, .slice p2 m.length k2], .agg #[.slice q1 q.length l1, .slice q2 o.length l2]] w' _) := Lib.hid (fun w' hf => rmore_calls w' p1 p2 q1 q2 k1 k2 l1 l2 p m q o (h5.keep (hF.trans hf)) (h6.keep (hF.trans hf)) (h7.keep (hF.trans hf)) (h8.keep (hF.trans hf)) z5 z6 z7 z8)
  have HF := Lib.hid hF
  rw [same_eq m1 m2 m3 m4] at KS
  rw [show (subB p q && subB m o) = withinB p m q o from rfl] at RW
  rw [m1, m2] at HR1 HL1
  rw [m3, m4] at HR2
  rw [m5, m6] at HR3
  rw [m7, m8] at HR4
  simp only [Bool.and_self] at HR1 HR2 HR3 HR4 HL1
  have SM : Hid (∀ w' x1 x2 x3 x4 y1 u1 y2 u2 y3 u3 y4 u4, MoreR w' x1 y1 u1 x2 y2 u2 (setB (joinB p q) && setB (joinB m o)) (joinB p q) (joinB m o) → MoreB w' x3 y3 u3 x4 y4 u4 (joinR p q && joinR m o) (joinZ p q) (joinZ m o) → Calls Try.prog 35 #[.agg #[.slice x1 y1 u1, .slice x2 y2 u2], .agg #[.slice x3 y3 u3, .slice x4 y4 u4]] w' _) := Lib.hid (fun w' x1 x2 x3 x4 y1 u1 y2 u2 y3 u3 y4 u4 hR hB => same_more m5 m6 m7 m8 w' x1 x2 x3 x4 y1 u1 y2 u2 y3 u3 y4 u4 hR hB)
  rw [joinR_sets m5 m7, joinR_sets m6 m8] at RM SM
  clear hF h1 h2 h3 h4 h5 h6 h7 h8 h9 z5 z6 z7 z8 m1 m2 m3 m4 m5 m6 m7 m8
  generalize (eqB s1 s2 && eqB i1 i2) = v1 at *
  generalize (subB s1 s2 && subB i2 i1) = v2 at *
  generalize safeB s1 s2 p m = v3 at *
  generalize changeB s1 i1 s2 i2 p m = v4 at *
  generalize withinB p m q o = v5 at *
  generalize lowB s1 tt = v6 at *
  generalize (setB (joinB p q) && setB (joinB m o)) = v7 at *
  generalize joinB p q = j1 at *
  generalize joinB m o = j2 at *
  generalize joinZ p q = j3 at *
  generalize joinZ m o = j4 at *
  generalize lessB p q = e1 at *
  generalize lessB m o = e2 at *
  generalize s1.length = n1 at *
  generalize i1.length = n2 at *
  generalize s2.length = n3 at *
  generalize i2.length = n4 at *
  generalize p.length = n5 at *
  generalize m.length = n6 at *
  generalize q.length = n7 at *
  generalize o.length = n8 at *
  generalize tt.length = n9 at *
  obtain ⟨W4, hW4⟩ : ∃ W4, ((((w.alloc (.cells #[.slice a1 n1 c1, .slice a2 n2 d1] 26)).alloc (.cells #[.slice b1 n3 c2, .slice b2 n4 d2] 26)).alloc (.cells #[.slice p1 n5 k1, .slice p2 n6 k2] 35)).alloc (.cells #[.slice q1 n7 l1, .slice q2 n8 l2] 35)) = W4 := ⟨_, rfl⟩
  rw [hW4] at HC HF HR1 HR2 HR3 HR4 HL1 KS RS KF RF KA RA KH RH KW RW KL RL KO RO KM RM
  have HW4 := Lib.hid hW4
  clear hW4
  go_enter Try.func5, Try.ntmps5
  obtain ⟨⟨hx1, hx2⟩, ⟨hx3, hx4⟩, ⟨hx5, hx6⟩, hx7, hx8⟩ := HC.out W4 (Fr.refl _ _)
  rw [← HW4.out] at hx1 hx2 hx3 hx4 hx5 hx6 hx7 hx8
  go_wp2_with fail
  rw [HW4.out]
  clear HW4 hx1 hx2 hx3 hx4 hx5 hx6 hx7 hx8
  have HFW : Hid (Fr [] W4 W4) := Lib.hid (Fr.refl _ _)
  refine (HR1.out _ HFW.out).mono ?_
  rintro e w1 ⟨rfl, hf⟩
  have HFW' := Lib.hid (HFW.out.trans hf)
  clear hf HFW
  have HFW := HFW'
  clear HFW'
  obtain ⟨⟨hx1, hx2⟩, ⟨hx3, hx4⟩, ⟨hx5, hx6⟩, hx7, hx8⟩ := HC.out _ HFW.out
  go_wp2_with fail
  try clear hx1 hx2 hx3 hx4 hx5 hx6 hx7 hx8
  refine (HR2.out _ HFW.out).mono ?_
  rintro e w2 ⟨rfl, hf⟩
  have HFW' := Lib.hid (HFW.out.trans hf)
  clear hf HFW
  have HFW := HFW'
  clear HFW'
  obtain ⟨⟨hx1, hx2⟩, ⟨hx3, hx4⟩, ⟨hx5, hx6⟩, hx7, hx8⟩ := HC.out _ HFW.out
  go_wp2_with fail
  try clear hx1 hx2 hx3 hx4 hx5 hx6 hx7 hx8
  refine (HR3.out _ HFW.out).mono ?_
  rintro e w3 ⟨rfl, hf⟩
  have HFW' := Lib.hid (HFW.out.trans hf)
  clear hf HFW
  have HFW := HFW'
  clear HFW'
  obtain ⟨⟨hx1, hx2⟩, ⟨hx3, hx4⟩, ⟨hx5, hx6⟩, hx7, hx8⟩ := HC.out _ HFW.out
  go_wp2_with fail
  try clear hx1 hx2 hx3 hx4 hx5 hx6 hx7 hx8
  refine (HR4.out _ HFW.out).mono ?_
  rintro e w4 ⟨rfl, hf⟩
  have HFW' := Lib.hid (HFW.out.trans hf)
  clear hf HFW
  have HFW := HFW'
  clear HFW'
  obtain ⟨⟨hx1, hx2⟩, ⟨hx3, hx4⟩, ⟨hx5, hx6⟩, hx7, hx8⟩ := HC.out _ HFW.out
  go_wp2_with fail
  try clear hx1 hx2 hx3 hx4 hx5 hx6 hx7 hx8
  refine (KM.out _ HFW.out).mono ?_
  rintro e w5 ⟨x1, y1, u1, x2, y2, u2, rfl, hm, hf⟩
  have hf6 : Fr [] W4 (w5.alloc (.cells #[.slice x1 y1 u1, .slice x2 y2 u2] 35)) := (HFW.out.trans hf).alloc _
  have hm6 := moreR_keep hm ((Fr.refl [] w5).alloc (.cells #[.slice x1 y1 u1, .slice x2 y2 u2] 35))
  obtain ⟨w6, hw6⟩ : ∃ w6, w5.alloc (.cells #[.slice x1 y1 u1, .slice x2 y2 u2] 35) = w6 := ⟨_, rfl⟩
  rw [hw6] at hf6 hm6
  have HB1 : Hid (∀ w', Fr [] w6 w' → w'.cell? ⟨w5.heap.size, 0, none⟩ = some (.slice x1 y1 u1) ∧ w'.cell? ⟨w5.heap.size, 1, none⟩ = some (.slice x2 y2 u2)) := Lib.hid (fun w' hf => by
    have hb := hf.keep (by rw [← hw6]; exact heap_alloc_last w5 _) (by simp)
    exact ⟨by rw [box_cell hb]; rfl, by rw [box_cell hb]; rfl⟩)
  have HF6 := Lib.hid hf6; have HM6 := Lib.hid hm6; have HW6 := Lib.hid hw6
  clear hm hf hf6 hm6 hw6 HFW
  obtain ⟨⟨hx1, hx2⟩, ⟨hx3, hx4⟩, ⟨hx5, hx6⟩, hx7, hx8⟩ := HC.out _ HF6.out
  rw [← HW6.out] at hx1 hx2 hx3 hx4 hx5 hx6 hx7 hx8
  go_wp2_with fail
  rw [HW6.out]
  clear hx1 hx2 hx3 hx4 hx5 hx6 hx7 hx8
  refine (RM.out _ HF6.out).mono ?_
  rintro e w7 ⟨x3, y3, u3, x4, y4, u4, rfl, hm, hf⟩
  have hf78 : Fr [] w7 (w7.alloc (.cells #[.slice x3 y3 u3, .slice x4 y4 u4] 35)) := (Fr.refl [] w7).alloc _
  obtain ⟨w8, hw8⟩ : ∃ w8, w7.alloc (.cells #[.slice x3 y3 u3, .slice x4 y4 u4] 35) = w8 := ⟨_, rfl⟩
  rw [hw8] at hf78
  have hmR := moreR_keep HM6.out (hf.trans hf78)
  have hmB := moreB_keep hm hf78
  have HB2 : Hid (∀ w', Fr [] w8 w' → w'.cell? ⟨w7.heap.size, 0, none⟩ = some (.slice x3 y3 u3) ∧ w'.cell? ⟨w7.heap.size, 1, none⟩ = some (.slice x4 y4 u4)) := Lib.hid (fun w' hf => by
    have hb := hf.keep (by rw [← hw8]; exact heap_alloc_last w7 _) (by simp)
    exact ⟨by rw [box_cell hb]; rfl, by rw [box_cell hb]; rfl⟩)
  have HF68 := Lib.hid (hf.trans hf78); have HFW := Lib.hid (HF6.out.trans (hf.trans hf78)); have HMR := Lib.hid hmR; have HMB := Lib.hid hmB; have HW8 := Lib.hid hw8
  clear hm hf hf78 hw8 hmR hmB HM6 HF6 HW6
  go_upto_region 5 with fail
  rw [HW8.out]
  clear HW8
  go_cut [114] (fun v wx => v = .bool false ∧ Fr [] w8 wx)
  case first =>
    obtain ⟨⟨hx1, hx2⟩, ⟨hx3, hx4⟩, ⟨hx5, hx6⟩, hx7, hx8⟩ := HC.out _ HFW.out
    have q1 := cell_regrown hx1; have q2 := cell_regrown hx2; have q3 := cell_regrown hx3; have q4 := cell_regrown hx4; have q5 := cell_regrown hx5; have q6 := cell_regrown hx6
    clear hx1 hx2 hx3 hx4 hx5 hx6 hx7 hx8
    have g1 := quiet_of_fr HFW.out HL1.out
    have g2 := quiet_of_fr HFW.out KS.out
    have g3 := quiet_of_fr HFW.out RS.out
    have g4 := quiet_of_fr HFW.out KF.out
    have g5 := quiet_of_fr HFW.out RF.out
    have g6 := quiet_of_fr HFW.out KA.out
    have g7 := quiet_of_fr HFW.out RA.out
    have g8 := quiet_of_fr HFW.out KH.out
    have g9 := quiet_of_fr HFW.out RH.out
    have nv1 : (v1 != v1) = false := by cases v1 <;> rfl
    have nv2 : (v2 != v2) = false := by cases v2 <;> rfl
    have nv3 : (v3 != v3) = false := by cases v3 <;> rfl
    have nv4 : (v4 != v4) = false := by cases v4 <;> rfl
    refine wp_region_quiet_below (by kernel_rfl) (by kernel_rfl) ?_
    repeat (go_big_quiet_step (with_reducible (first | exact g1 _ _ | exact g2 _ _ | exact g3 _ _ | exact g4 _ _ | exact g5 _ _ | exact g6 _ _ | exact g7 _ _ | exact g8 _ _ | exact g9 _ _ )))
    refine wpQuiet_nil ?_
    intro _ hw'
    obtain ⟨⟨dq, osq⟩, hw''⟩ := hw'
    subst hw''
    go_wp2_with fail
    go_meet
    exact ⟨rfl, fr_regrown _ dq osq⟩
  case rest =>
    obtain ⟨rfl, hfw⟩ := hcut
    have HFX := Lib.hid hfw; have HFY := Lib.hid (HFW.out.trans hfw)
    have HMR' := Lib.hid (moreR_keep HMR.out hfw); have HMB' := Lib.hid (moreB_keep HMB.out hfw)
    clear hfw HL1 KS RS KF RF KA RA KH RH HR1 HR2 HR3 HR4 KM RM HMR HMB
    go_upto_region 7 with fail
    have HS : Hid (∀ w', Fr [] wc w' → w'.cell? ⟨w.heap.size, 0, none⟩ = some (.slice a1 n1 c1) ∧ w'.cell? ⟨w.heap.size, 1, none⟩ = some (.slice a2 n2 d1) ∧ w'.cell? ⟨w.heap.size + 1 + 1, 0, none⟩ = some (.slice p1 n5 k1) ∧ w'.cell? ⟨w.heap.size + 1 + 1, 1, none⟩ = some (.slice p2 n6 k2) ∧ w'.cell? ⟨w.heap.size + 1 + 1 + 1, 0, none⟩ = some (.slice q1 n7 l1) ∧ w'.cell? ⟨w.heap.size + 1 + 1 + 1, 1, none⟩ = some (.slice q2 n8 l2) ∧ w'.cell? ⟨w5.heap.size, 0, none⟩ = some (.slice x1 y1 u1) ∧ w'.cell? ⟨w5.heap.size, 1, none⟩ = some (.slice x2 y2 u2) ∧ w'.cell? ⟨w7.heap.size, 0, none⟩ = some (.slice x3 y3 u3) ∧ w'.cell? ⟨w7.heap.size, 1, none⟩ = some (.slice x4 y4 u4)) := Lib.hid (fun w' hf => by
      obtain ⟨⟨hx1, hx2⟩, ⟨hx3, hx4⟩, ⟨hx5, hx6⟩, hx7, hx8⟩ := HC.out w' (HFY.out.trans hf)
      obtain ⟨g1, g2⟩ := HB1.out w' ((HF68.out.trans HFX.out).trans hf)
      obtain ⟨g3, g4⟩ := HB2.out w' (HFX.out.trans hf)
      exact ⟨hx1, hx2, hx5, hx6, hx7, hx8, g1, g2, g3, g4⟩)
    have SL : Hid (∀ w' x5 x6 x7 x8 u5 u6 u7 u8, RdI w' x5 u5 e1 → RdI w' x6 u6 e2 → RdI w' x7 u7 e1 → RdI w' x8 u8 e2 → Calls Try.prog 35 #[.agg #[.slice x5 e1.length u5, .slice x6 e2.length u6], .agg #[.slice x7 e1.length u7, .slice x8 e2.length u8]] w' _) := Lib.hid (fun w' x5 x6 x7 x8 u5 u6 u7 u8 r1 r2 r3 r4 => same_less w' x5 x6 x7 x8 u5 u6 u7 u8 e1 e2 r1 r2 r3 r4)
    have bv5 := bool_self v5; have bv6 := bool_self v6; have bv7 := bool_self v7
    have hq := (Fr.refl [] wc).drew
    clear HC HB1 HB2 HF68 HFX HFW
    go_region_held3 (fun w' => w'.cell? ⟨w.heap.size, 0, none⟩ = some (.slice a1 n1 c1) ∧ w'.cell? ⟨w.heap.size, 1, none⟩ = some (.slice a2 n2 d1) ∧ w'.cell? ⟨w.heap.size + 1 + 1, 0, none⟩ = some (.slice p1 n5 k1) ∧ w'.cell? ⟨w.heap.size + 1 + 1, 1, none⟩ = some (.slice p2 n6 k2) ∧ w'.cell? ⟨w.heap.size + 1 + 1 + 1, 0, none⟩ = some (.slice q1 n7 l1) ∧ w'.cell? ⟨w.heap.size + 1 + 1 + 1, 1, none⟩ = some (.slice q2 n8 l2) ∧ w'.cell? ⟨w5.heap.size, 0, none⟩ = some (.slice x1 y1 u1) ∧ w'.cell? ⟨w5.heap.size, 1, none⟩ = some (.slice x2 y2 u2) ∧ w'.cell? ⟨w7.heap.size, 0, none⟩ = some (.slice x3 y3 u3) ∧ w'.cell? ⟨w7.heap.size, 1, none⟩ = some (.slice x4 y4 u4))
      (exact HS.out _ hq)
      (first
        | (go_at_call 33; (with_reducible refine (KW.out _ ?_).mono ?_); exact HFY.out.trans hq; rintro e w9 ⟨rfl, hf⟩; have hq := hq.trans hf; clear hf)
        | (go_at_call 34; (with_reducible refine (RW.out _ ?_).mono ?_); exact HFY.out.trans hq; rintro e w9 ⟨rfl, hf⟩; have hq := hq.trans hf; clear hf)
        | (go_at_call 36; (with_reducible refine (KL.out _ ?_).mono ?_); exact HFY.out.trans hq; rintro e wl ⟨x5, x6, u5, u6, rfl, r1, r2, hfl⟩; have hq := hq.trans hfl)
        | (go_at_call 37; (with_reducible refine (RL.out _ ?_).mono ?_); exact HFY.out.trans hq; rintro e wr ⟨x7, x8, u7, u8, rfl, r3, r4, hfr⟩; have hq := hq.trans hfr)
        | (go_at_call 35; (with_reducible refine (SL.out _ _ _ _ _ _ _ _ _ (r1.keep hfr) (r2.keep hfr) r3 r4).mono ?_); rintro e w9 ⟨rfl, hf⟩; have hq := hq.trans hf; clear hf)
        | (go_at_call 35; (with_reducible refine (SL.out _ _ _ _ _ _ _ _ _ r1 r2 (r3.keep hfl) (r4.keep hfl)).mono ?_); rintro e w9 ⟨rfl, hf⟩; have hq := hq.trans hf; clear hf)
        | (go_at_call 35; (with_reducible refine (SM.out _ _ _ _ _ _ _ _ _ _ _ _ _ (moreR_keep HMR'.out hq) (moreB_keep HMB'.out hq)).mono ?_); rintro e w9 ⟨rfl, hf⟩; have hq := hq.trans hf; clear hf)
        | (go_at_call 38; (with_reducible refine (KO.out _ ?_).mono ?_); exact HFY.out.trans hq; rintro e w9 ⟨rfl, hf⟩; have hq := hq.trans hf; clear hf)
        | (go_at_call 39; (with_reducible refine (RO.out _ ?_).mono ?_); exact HFY.out.trans hq; rintro e w9 ⟨rfl, hf⟩; have hq := hq.trans hf; clear hf)
        | (go_at_call 11; (with_reducible refine (awake_calls _).mono ?_); rintro e w9 ⟨rfl, hf⟩; have hq := hq.trans hf; clear hf))
    all_goals
      have HZ := Lib.hid (HF.out.trans (HFY.out.trans hq))
      clear hq
      go_wp2_with fail
      go_ret
      exact ⟨rfl, HZ.out⟩
end Go.Proofs.Ytdbhppfpalpfmaa
