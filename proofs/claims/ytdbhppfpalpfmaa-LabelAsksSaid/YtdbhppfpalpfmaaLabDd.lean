/-
  The document's own: Less, More, Low.
-/
import Derived.Test.YtdbhppfpalpfmaaLabDc
import Derived.Test.YtdbhppfpalpfmaaLabSe
import Derived.Test.YtdbhppfpalpfmaaLabT
import Derived.Deep.RegionHeld3
namespace Go.Proofs.Ytdbhppfpalpfmaa
open Go.RowKit Go.MapKept
theorem two_set_other {w : World} {B b o : Nat} (v u : Value) (h : b ≠ B) : ((w.setCell ⟨B, 0, none⟩ v).setCell ⟨B, 1, none⟩ u).cell? ⟨b, o, none⟩ = w.cell? ⟨b, o, none⟩ := by
  rw [World.cell?_setCell_other _ ⟨B, 1, none⟩ ⟨b, o, none⟩ _ (by simp), World.cell?_setCell_other _ ⟨B, 0, none⟩ ⟨b, o, none⟩ _ (by simp)]
set_option maxRecDepth 100000 in
set_option maxHeartbeats 4000000 in
theorem rless_calls (w : World) (ap am bp bm : Option Addr) (cp cm dp dm : Nat) (p m q o : List Int) (h1 : RdI w ap cp p) (h2 : RdI w am cm m) (h3 : RdI w bp dp q) (h4 : RdI w bm dm o) :
    Calls Try.prog 37 #[.agg #[.slice ap p.length cp, .slice am m.length cm], .agg #[.slice bp q.length dp, .slice bm o.length dm]] w fun e w' => ∃ a1 a2 k1 k2, e = .returned (.agg #[.slice a1 (lessB p q).length k1, .slice a2 (lessB m o).length k2]) ∧ RdI w' a1 k1 (lessB p q) ∧ RdI w' a2 k2 (lessB m o) ∧ Fr [] w w' := by
  have hF : Fr [] w (((w.alloc (.cells #[.slice ap p.length cp, .slice am m.length cm] 35)).alloc (.cells #[.slice bp q.length dp, .slice bm o.length dm] 35)).alloc (.cells #[.slice none 0 0, .slice none 0 0] 35)) := (((Fr.refl [] w).alloc _).alloc _).alloc _
  have HC : Hid (∀ w', Fr [] (((w.alloc (.cells #[.slice ap p.length cp, .slice am m.length cm] 35)).alloc (.cells #[.slice bp q.length dp, .slice bm o.length dm] 35)).alloc (.cells #[.slice none 0 0, .slice none 0 0] 35)) w' → w'.cell? ⟨w.heap.size, 0, none⟩ = some (.slice ap p.length cp) ∧ w'.cell? ⟨w.heap.size, 1, none⟩ = some (.slice am m.length cm) ∧ w'.cell? ⟨w.heap.size + 1, 0, none⟩ = some (.slice bp q.length dp) ∧ w'.cell? ⟨w.heap.size + 1, 1, none⟩ = some (.slice bm o.length dm)) := Lib.hid (fun w' hf => by
    obtain ⟨hb1, hb2, hb3⟩ := three_boxes hf
    exact ⟨by rw [box_cell hb1]; rfl, by rw [box_cell hb1]; rfl, by rw [box_cell hb2]; rfl, by rw [box_cell hb2]; rfl⟩)
  have HB3 : Hid (∀ w', Fr [] (((w.alloc (.cells #[.slice ap p.length cp, .slice am m.length cm] 35)).alloc (.cells #[.slice bp q.length dp, .slice bm o.length dm] 35)).alloc (.cells #[.slice none 0 0, .slice none 0 0] 35)) w' → w'.heap[w.heap.size + 1 + 1]? = some (.cells #[.slice none 0 0, .slice none 0 0] 35 (0, 0))) := Lib.hid (fun w' hf => (three_boxes hf).2.2)
  have HR3 : Hid (∀ w', Fr [] (((w.alloc (.cells #[.slice ap p.length cp, .slice am m.length cm] 35)).alloc (.cells #[.slice bp q.length dp, .slice bm o.length dm] 35)).alloc (.cells #[.slice none 0 0, .slice none 0 0] 35)) w' → w'.cell? ⟨w.heap.size + 1 + 1, 0, none⟩ = some (.slice none 0 0) ∧ w'.cell? ⟨w.heap.size + 1 + 1, 1, none⟩ = some (.slice none 0 0) ∧ w'.frozen? ⟨w.heap.size + 1 + 1, 0, none⟩ = false ∧ w'.frozen? ⟨w.heap.size + 1 + 1, 1, none⟩ = false) := Lib.hid (fun w' hf => by
    have hb := (three_boxes hf).2.2
    exact ⟨by rw [box_cell hb]; rfl, by rw [box_cell hb]; rfl, box_free hb 0, box_free hb 1⟩)
  have HP : Hid (∀ w', Fr [] (((w.alloc (.cells #[.slice ap p.length cp, .slice am m.length cm] 35)).alloc (.cells #[.slice bp q.length dp, .slice bm o.length dm] 35)).alloc (.cells #[.slice none 0 0, .slice none 0 0] 35)) w' → Calls Try.prog 61 #[.slice ap p.length cp, .slice bp q.length dp] w' _) := Lib.hid (fun w' hf => rwithout_calls w' ap bp cp dp p q (h1.keep (hF.trans hf)) (h3.keep (hF.trans hf)))
  have HM : Hid (∀ w', Fr [] (((w.alloc (.cells #[.slice ap p.length cp, .slice am m.length cm] 35)).alloc (.cells #[.slice bp q.length dp, .slice bm o.length dm] 35)).alloc (.cells #[.slice none 0 0, .slice none 0 0] 35)) w' → Calls Try.prog 61 #[.slice am m.length cm, .slice bm o.length dm] w' _) := Lib.hid (fun w' hf => rwithout_calls w' am bm cm dm m o (h2.keep (hF.trans hf)) (h4.keep (hF.trans hf)))
  have HF := Lib.hid hF
  clear hF h1 h2 h3 h4
  obtain ⟨W3, hW3⟩ : ∃ W3, (((w.alloc (.cells #[.slice ap p.length cp, .slice am m.length cm] 35)).alloc (.cells #[.slice bp q.length dp, .slice bm o.length dm] 35)).alloc (.cells #[.slice none 0 0, .slice none 0 0] 35)) = W3 := ⟨_, rfl⟩
  rw [hW3] at HC HB3 HR3 HP HM HF
  have HW3 := Lib.hid hW3
  clear hW3
  go_enter Try.func37, Try.ntmps37
  go_wp2_with fail
  rw [HW3.out]
  clear HW3
  go_region_held3 (fun w' => w'.cell? ⟨w.heap.size, 0, none⟩ = some (.slice ap p.length cp) ∧ w'.cell? ⟨w.heap.size, 1, none⟩ = some (.slice am m.length cm) ∧ w'.cell? ⟨w.heap.size + 1, 0, none⟩ = some (.slice bp q.length dp) ∧ w'.cell? ⟨w.heap.size + 1, 1, none⟩ = some (.slice bm o.length dm))
    (first | exact HC.out _ hqm | exact HC.out _ hqp | exact HC.out _ (Fr.refl [] _).drew | exact HC.out _ (Fr.refl [] _) | (obtain ⟨v1, v2, v3, v4⟩ := HC.out _ hqm; obtain ⟨v5, v6, v7, v8⟩ := HC.out _ hqp; refine ⟨?_, ?_, ?_, ?_⟩ <;> (rw [two_set_other _ _ (by omega)]; assumption)))
    (first
      | (go_at_call 61; (with_reducible refine (HP.out _ ?_).mono ?_); (first | exact hqm | exact (Fr.refl [] _).drew); rintro e w1 ⟨x1, k1, rfl, r1, hf1⟩; have hqp : Fr [] W3 w1 := (by first | exact hqm.trans hf1 | exact ((Fr.refl [] W3).drew).trans hf1); obtain ⟨z1, z2, z3, z4⟩ := HR3.out w1 hqp)
      | (go_at_call 61; (with_reducible refine (HM.out _ ?_).mono ?_); (first | exact hqp | exact (Fr.refl [] _).drew); rintro e w2 ⟨x2, k2, rfl, r2, hf2⟩; have hqm : Fr [] W3 w2 := (by first | exact hqp.trans hf2 | exact ((Fr.refl [] W3).drew).trans hf2); obtain ⟨z1, z2, z3, z4⟩ := HR3.out w2 hqm))
  all_goals first
    | (have R1 := Lib.hid (r1.keep hf2); have R2 := Lib.hid (r2); have HQ := Lib.hid hqm
       clear hf1 hf2 r1 r2 hqp hqm
       go_wp2_with fail
       have hB := box_store2 (u0 := .slice x1 (lessB p q).length k1) (u1 := .slice x2 (lessB m o).length k2) (HB3.out w2 HQ.out)
       have hfB : Fr [w.heap.size + 1 + 1] w2 ((w2.setCell ⟨w.heap.size + 1 + 1, 0, none⟩ (.slice x1 (lessB p q).length k1)).setCell ⟨w.heap.size + 1 + 1, 1, none⟩ (.slice x2 (lessB m o).length k2)) := ((Fr.refl _ _).setCell (.inl (by simp)) _).setCell (.inl (by simp)) _
       have hd0 := box_cell hB 0
       have hd1 := box_cell hB 1
       simp only [List.getElem?_toArray, List.getElem?_cons_zero, List.getElem?_cons_succ] at hd0 hd1
       refine bodyPost_ret (v := .agg #[.slice x1 (lessB p q).length k1, .slice x2 (lessB m o).length k2]) ?_ rfl ⟨x1, x2, k1, k2, rfl, R1.out.keepB hfB (HB3.out w2 HQ.out) (noInt_two _ _ _ _ _ _), R2.out.keepB hfB (HB3.out w2 HQ.out) (noInt_two _ _ _ _ _ _), (HF.out.trans HQ.out).trans_new hfB (by intro x hx; simp at hx; omega)⟩
       generalize ((w2.setCell ⟨w.heap.size + 1 + 1, 0, none⟩ (.slice x1 (lessB p q).length k1)).setCell ⟨w.heap.size + 1 + 1, 1, none⟩ (.slice x2 (lessB m o).length k2)) = wf at *
       simp [results, Try.f37, go_sem, hd0, hd1])
    | (have R1 := Lib.hid (r1); have R2 := Lib.hid (r2.keep hf1); have HQ := Lib.hid hqp
       clear hf1 hf2 r1 r2 hqp hqm
       go_wp2_with fail
       have hB := box_store2 (u0 := .slice x1 (lessB p q).length k1) (u1 := .slice x2 (lessB m o).length k2) (HB3.out w1 HQ.out)
       have hfB : Fr [w.heap.size + 1 + 1] w1 ((w1.setCell ⟨w.heap.size + 1 + 1, 0, none⟩ (.slice x1 (lessB p q).length k1)).setCell ⟨w.heap.size + 1 + 1, 1, none⟩ (.slice x2 (lessB m o).length k2)) := ((Fr.refl _ _).setCell (.inl (by simp)) _).setCell (.inl (by simp)) _
       have hd0 := box_cell hB 0
       have hd1 := box_cell hB 1
       simp only [List.getElem?_toArray, List.getElem?_cons_zero, List.getElem?_cons_succ] at hd0 hd1
       refine bodyPost_ret (v := .agg #[.slice x1 (lessB p q).length k1, .slice x2 (lessB m o).length k2]) ?_ rfl ⟨x1, x2, k1, k2, rfl, R1.out.keepB hfB (HB3.out w1 HQ.out) (noInt_two _ _ _ _ _ _), R2.out.keepB hfB (HB3.out w1 HQ.out) (noInt_two _ _ _ _ _ _), (HF.out.trans HQ.out).trans_new hfB (by intro x hx; simp at hx; omega)⟩
       generalize ((w1.setCell ⟨w.heap.size + 1 + 1, 0, none⟩ (.slice x1 (lessB p q).length k1)).setCell ⟨w.heap.size + 1 + 1, 1, none⟩ (.slice x2 (lessB m o).length k2)) = wf at *
       simp [results, Try.f37, go_sem, hd0, hd1])
def MoreB (w : World) (a1 : Option Addr) (n1 k1 : Nat) (a2 : Option Addr) (n2 k2 : Nat) (r : Bool) (l1 l2 : List Int) : Prop :=
  (r = true → (n1 = l1.length ∧ RdI w a1 k1 l1) ∧ n2 = l2.length ∧ RdI w a2 k2 l2) ∧ (r = false → a1 = none ∧ n1 = 0 ∧ k1 = 0 ∧ a2 = none ∧ n2 = 0 ∧ k2 = 0)
set_option maxRecDepth 100000 in
set_option maxHeartbeats 4000000 in
theorem rmore_calls (w : World) (ap am bp bm : Option Addr) (cp cm dp dm : Nat) (p m q o : List Int) (h1 : RdI w ap cp p) (h2 : RdI w am cm m) (h3 : RdI w bp dp q) (h4 : RdI w bm dm o) (z1 : ap = none → cp = 0) (z2 : am = none → cm = 0) (z3 : bp = none → dp = 0) (z4 : bm = none → dm = 0) :
    Calls Try.prog 24 #[.agg #[.slice ap p.length cp, .slice am m.length cm], .agg #[.slice bp q.length dp, .slice bm o.length dm]] w fun e w' => ∃ a1 n1 k1 a2 n2 k2, e = .returned (.tuple #[.agg #[.slice a1 n1 k1, .slice a2 n2 k2], .bool (joinR p q && joinR m o)]) ∧ MoreB w' a1 n1 k1 a2 n2 k2 (joinR p q && joinR m o) (joinZ p q) (joinZ m o) ∧ Fr [] w w' := by
  have hF : Fr [] w (((w.alloc (.cells #[.slice ap p.length cp, .slice am m.length cm] 35)).alloc (.cells #[.slice bp q.length dp, .slice bm o.length dm] 35)).alloc (.cells #[.slice none 0 0, .slice none 0 0] 35)) := (((Fr.refl [] w).alloc _).alloc _).alloc _
  have HC : Hid (∀ w', Fr [] (((w.alloc (.cells #[.slice ap p.length cp, .slice am m.length cm] 35)).alloc (.cells #[.slice bp q.length dp, .slice bm o.length dm] 35)).alloc (.cells #[.slice none 0 0, .slice none 0 0] 35)) w' → w'.cell? ⟨w.heap.size, 0, none⟩ = some (.slice ap p.length cp) ∧ w'.cell? ⟨w.heap.size, 1, none⟩ = some (.slice am m.length cm) ∧ w'.cell? ⟨w.heap.size + 1, 0, none⟩ = some (.slice bp q.length dp) ∧ w'.cell? ⟨w.heap.size + 1, 1, none⟩ = some (.slice bm o.length dm)) := Lib.hid (fun w' hf => by
    obtain ⟨hb1, hb2, hb3⟩ := three_boxes hf
    exact ⟨by rw [box_cell hb1]; rfl, by rw [box_cell hb1]; rfl, by rw [box_cell hb2]; rfl, by rw [box_cell hb2]; rfl⟩)
  have HB3 : Hid (∀ w', Fr [] (((w.alloc (.cells #[.slice ap p.length cp, .slice am m.length cm] 35)).alloc (.cells #[.slice bp q.length dp, .slice bm o.length dm] 35)).alloc (.cells #[.slice none 0 0, .slice none 0 0] 35)) w' → w'.heap[w.heap.size + 1 + 1]? = some (.cells #[.slice none 0 0, .slice none 0 0] 35 (0, 0))) := Lib.hid (fun w' hf => (three_boxes hf).2.2)
  have HR3 : Hid (∀ w', Fr [] (((w.alloc (.cells #[.slice ap p.length cp, .slice am m.length cm] 35)).alloc (.cells #[.slice bp q.length dp, .slice bm o.length dm] 35)).alloc (.cells #[.slice none 0 0, .slice none 0 0] 35)) w' → w'.cell? ⟨w.heap.size + 1 + 1, 0, none⟩ = some (.slice none 0 0) ∧ w'.cell? ⟨w.heap.size + 1 + 1, 1, none⟩ = some (.slice none 0 0) ∧ w'.frozen? ⟨w.heap.size + 1 + 1, 0, none⟩ = false ∧ w'.frozen? ⟨w.heap.size + 1 + 1, 1, none⟩ = false) := Lib.hid (fun w' hf => by
    have hb := (three_boxes hf).2.2
    exact ⟨by rw [box_cell hb]; rfl, by rw [box_cell hb]; rfl, box_free hb 0, box_free hb 1⟩)
  have HP : Hid (∀ w', Fr [] (((w.alloc (.cells #[.slice ap p.length cp, .slice am m.length cm] 35)).alloc (.cells #[.slice bp q.length dp, .slice bm o.length dm] 35)).alloc (.cells #[.slice none 0 0, .slice none 0 0] 35)) w' → Calls Try.prog 16 #[.slice ap p.length cp, .slice bp q.length dp] w' _) := Lib.hid (fun w' hf => rjoin_u w' ap bp cp dp p q (h1.keep (hF.trans hf)) (h3.keep (hF.trans hf)) z1 z3)
  have HM : Hid (∀ w', Fr [] (((w.alloc (.cells #[.slice ap p.length cp, .slice am m.length cm] 35)).alloc (.cells #[.slice bp q.length dp, .slice bm o.length dm] 35)).alloc (.cells #[.slice none 0 0, .slice none 0 0] 35)) w' → Calls Try.prog 16 #[.slice am m.length cm, .slice bm o.length dm] w' _) := Lib.hid (fun w' hf => rjoin_u w' am bm cm dm m o (h2.keep (hF.trans hf)) (h4.keep (hF.trans hf)) z2 z4)
  have HF := Lib.hid hF
  clear hF h1 h2 h3 h4 z1 z2 z3 z4
  generalize joinR p q = r1 at *
  generalize joinR m o = r2 at *
  generalize joinZ p q = l1 at *
  generalize joinZ m o = l2 at *
  obtain ⟨W3, hW3⟩ : ∃ W3, (((w.alloc (.cells #[.slice ap p.length cp, .slice am m.length cm] 35)).alloc (.cells #[.slice bp q.length dp, .slice bm o.length dm] 35)).alloc (.cells #[.slice none 0 0, .slice none 0 0] 35)) = W3 := ⟨_, rfl⟩
  rw [hW3] at HC HB3 HR3 HP HM HF
  have HW3 := Lib.hid hW3
  clear hW3
  go_enter Try.func24, Try.ntmps24
  obtain ⟨v1, v2, v3, v4⟩ := HC.out W3 (Fr.refl _ _)
  rw [← HW3.out] at v1 v2 v3 v4
  go_wp2_with fail
  rw [HW3.out]
  clear HW3 v1 v2 v3 v4
  refine (HP.out _ (Fr.refl _ _)).mono ?_
  rintro e w1 ⟨x1, k1, rfl, q1, hf1⟩
  obtain ⟨v1, v2, v3, v4⟩ := HC.out w1 hf1
  have Q1 := Lib.hid q1; have HF1 := Lib.hid hf1
  clear q1 hf1
  go_wp2_with fail
  refine (HM.out _ HF1.out).mono ?_
  rintro e w2 ⟨x2, k2, rfl, q2, hf2⟩
  have q1' := Q1.out.keep hf2
  have hq := HF1.out.trans hf2
  obtain ⟨z1, z2, z3, z4⟩ := HR3.out w2 hq
  have hb := HB3.out w2 hq
  have Q1' := Lib.hid q1'; have Q2 := Lib.hid q2; have HQ := Lib.hid hq; have HB := Lib.hid hb
  clear q1' q2 hq hb hf2 Q1 HF1 v1 v2 v3 v4 HC HB3 HR3 HP HM
  cases r1 <;> cases r2
  all_goals simp only [Bool.and_true, Bool.and_false, Bool.false_and, Bool.and_self] at *
  rotate_left 3
  · skip
    go_wp2_with fail
    have hB := box_store2 (u0 := .slice x1 l1.length k1) (u1 := .slice x2 l2.length k2) HB.out
    have hfB : Fr [w.heap.size + 1 + 1] w2 ((w2.setCell ⟨w.heap.size + 1 + 1, 0, none⟩ (.slice x1 l1.length k1)).setCell ⟨w.heap.size + 1 + 1, 1, none⟩ (.slice x2 l2.length k2)) := ((Fr.refl _ _).setCell (.inl (by simp)) _).setCell (.inl (by simp)) _
    have hd0 := box_cell hB 0
    have hd1 := box_cell hB 1
    simp only [List.getElem?_toArray, List.getElem?_cons_zero, List.getElem?_cons_succ] at hd0 hd1
    refine bodyPost_ret (v := .tuple #[.agg #[.slice x1 l1.length k1, .slice x2 l2.length k2], .bool true]) ?_ rfl ⟨x1, l1.length, k1, x2, l2.length, k2, rfl, ⟨fun _ => ⟨⟨rfl, Q1'.out.keepB hfB HB.out (noInt_two _ _ _ _ _ _)⟩, rfl, Q2.out.keepB hfB HB.out (noInt_two _ _ _ _ _ _)⟩, (fun h => by cases h)⟩, (HF.out.trans HQ.out).trans_new hfB (by intro x hx; simp at hx; omega)⟩
    generalize ((w2.setCell ⟨w.heap.size + 1 + 1, 0, none⟩ (.slice x1 l1.length k1)).setCell ⟨w.heap.size + 1 + 1, 1, none⟩ (.slice x2 l2.length k2)) = wf at *
    simp [results, Try.f24, go_sem, hd0, hd1]
  all_goals
    go_wp2_with fail
    have hB := box_store2 (u0 := .slice none 0 0) (u1 := .slice none 0 0) HB.out
    have hfB : Fr [w.heap.size + 1 + 1] w2 ((w2.setCell ⟨w.heap.size + 1 + 1, 0, none⟩ (.slice none 0 0)).setCell ⟨w.heap.size + 1 + 1, 1, none⟩ (.slice none 0 0)) := ((Fr.refl _ _).setCell (.inl (by simp)) _).setCell (.inl (by simp)) _
    have hd0 := box_cell hB 0
    have hd1 := box_cell hB 1
    simp only [List.getElem?_toArray, List.getElem?_cons_zero, List.getElem?_cons_succ] at hd0 hd1
    refine bodyPost_ret (v := .tuple #[.agg #[.slice none 0 0, .slice none 0 0], .bool false]) ?_ rfl ⟨none, 0, 0, none, 0, 0, rfl, ⟨(fun h => by cases h), fun _ => ⟨rfl, rfl, rfl, rfl, rfl, rfl⟩⟩, (HF.out.trans HQ.out).trans_new hfB (by intro x hx; simp at hx; omega)⟩
    generalize ((w2.setCell ⟨w.heap.size + 1 + 1, 0, none⟩ (.slice none 0 0)).setCell ⟨w.heap.size + 1 + 1, 1, none⟩ (.slice none 0 0)) = wf at *
    simp [results, Try.f24, go_sem, hd0, hd1]
theorem low_len (a b : List Int) : decide ((lessB a b).length = a.length) = lowB a b := by
  unfold lowB lessB
  rw [Bool.eq_iff_iff, decide_eq_true_iff, decide_eq_true_iff, List.length_filter_eq_length_iff]
  constructor
  · intro h x hx; have := h x hx; simpa using this
  · intro h x hx; have := h x hx; simpa using this
set_option maxRecDepth 100000 in
set_option maxHeartbeats 2000000 in
theorem rlow_calls (w : World) (a1 a2 : Option Addr) (c1 c2 : Nat) (a b : List Int) (x : Value) (hx : x.oneCell' = true) (h1 : RdI w a1 c1 a) (h2 : RdI w a2 c2 b) :
    Calls Try.prog 39 #[.agg #[.slice a1 a.length c1, x], .slice a2 b.length c2] w fun e w' => e = .returned (.bool (lowB a b)) ∧ Fr [] w w' := by
  have hF : Fr [] w (w.alloc (.cells #[.slice a1 a.length c1, x] 26)) := (Fr.refl [] w).alloc _
  have HC : Hid (∀ w', Fr [] (w.alloc (.cells #[.slice a1 a.length c1, x] 26)) w' → w'.cell? ⟨w.heap.size, 0, none⟩ = some (.slice a1 a.length c1)) := Lib.hid (fun w' hf => by
    have hb := hf.keep (heap_alloc_last w (.cells #[.slice a1 a.length c1, x] 26)) (by simp)
    rw [box_cell hb]; rfl)
  have HW : Hid (∀ w', Fr [] (w.alloc (.cells #[.slice a1 a.length c1, x] 26)) w' → Calls Try.prog 61 #[.slice a1 a.length c1, .slice a2 b.length c2] w' _) := Lib.hid (fun w' hf => rwithout_calls w' a1 a2 c1 c2 a b (h1.keep (hF.trans hf)) (h2.keep (hF.trans hf)))
  have HF := Lib.hid hF
  have HL := Lib.hid (low_len a b)
  clear hF h1 h2
  generalize lowB a b = r at *
  generalize lessB a b = lo at *
  generalize a.length = n1 at *
  generalize b.length = n2 at *
  obtain ⟨W3, hW3⟩ : ∃ W3, w.alloc (.cells #[.slice a1 n1 c1, x] 26) = W3 := ⟨_, rfl⟩
  rw [hW3] at HC HW HF
  have HW3 := Lib.hid hW3
  clear hW3
  go_enter Try.func39, Try.ntmps39
  go_wp2_with fail
  rw [HW3.out]
  clear HW3
  have hc0 := HC.out W3 (Fr.refl _ _)
  obtain ⟨nl, hnl⟩ : ∃ nl, lo.length = nl := ⟨_, rfl⟩
  have hl := HL.out
  rw [hnl] at hl
  have e1 : ((nl : Int) == (n1 : Int)) = r := by
    rw [← hl, Bool.eq_iff_iff, beq_iff_eq, decide_eq_true_iff]; omega
  rw [hnl] at HW
  have HN := Lib.hid hnl
  clear hl hnl HL
  go_region_with (first
    | (go_at_call 61; (with_reducible refine (HW.out _ ?_).mono ?_); exact (Fr.refl [] _).drew; rintro e w1 ⟨ad, cap, rfl, hr, hf1⟩; have hc1 := HC.out w1 ((Fr.refl [] W3).drew.trans hf1)))
  all_goals
    have HQ := Lib.hid (HF.out.trans ((Fr.refl [] W3).drew.trans hf1))
    clear hf1 hr
    go_wp2_with fail
    go_ret
    exact ⟨rfl, HQ.out⟩
end Go.Proofs.Ytdbhppfpalpfmaa
