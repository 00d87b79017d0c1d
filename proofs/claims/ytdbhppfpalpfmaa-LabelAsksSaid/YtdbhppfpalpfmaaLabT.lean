/-
  More: all that two have.
-/
import Derived.Test.YtdbhppfpalpfmaaLabQ
namespace Go.Proofs.Ytdbhppfpalpfmaa
open Go.RowKit Go.MapKept
def MoreR (w : World) (a1 : Option Addr) (l1 k1 : Nat) (a2 : Option Addr) (l2 k2 : Nat) (r : Bool) (j1 j2 : List Int) : Prop :=
  (r = true → (l1 = j1.length ∧ RdI w a1 k1 j1) ∧ l2 = j2.length ∧ RdI w a2 k2 j2) ∧ (r = false → a1 = none ∧ l1 = 0 ∧ k1 = 0 ∧ a2 = none ∧ l2 = 0 ∧ k2 = 0)
set_option maxRecDepth 100000 in
set_option maxHeartbeats 4000000 in
theorem more_calls (w : World) (ap am bp bm : Option Addr) (cp cm dp dm : Nat) (p m q o : List Int) (h1 : RdI w ap cp p) (h2 : RdI w am cm m) (h3 : RdI w bp dp q) (h4 : RdI w bm dm o) (sp : setB p = true) (sm : setB m = true) (sq : setB q = true) (so : setB o = true) :
    Calls Try.prog 23 #[.agg #[.slice ap p.length cp, .slice am m.length cm], .agg #[.slice bp q.length dp, .slice bm o.length dm]] w fun e w' => ∃ a1 l1 k1 a2 l2 k2, e = .returned (.tuple #[.agg #[.slice a1 l1 k1, .slice a2 l2 k2], .bool (setB (joinB p q) && setB (joinB m o))]) ∧ MoreR w' a1 l1 k1 a2 l2 k2 (setB (joinB p q) && setB (joinB m o)) (joinB p q) (joinB m o) ∧ Fr [] w w' := by
  have hF : Fr [] w ((((w.alloc (.cells #[.slice ap p.length cp, .slice am m.length cm] 35)).alloc (.cells #[.slice bp q.length dp, .slice bm o.length dm] 35)).alloc (.cells #[.slice none 0 0, .slice none 0 0] 35)).alloc (.cells #[.bool true] 4)) := ((((Fr.refl [] w).alloc _).alloc _).alloc _).alloc _
  have hf3 : Fr [] (((w.alloc (.cells #[.slice ap p.length cp, .slice am m.length cm] 35)).alloc (.cells #[.slice bp q.length dp, .slice bm o.length dm] 35)).alloc (.cells #[.slice none 0 0, .slice none 0 0] 35)) ((((w.alloc (.cells #[.slice ap p.length cp, .slice am m.length cm] 35)).alloc (.cells #[.slice bp q.length dp, .slice bm o.length dm] 35)).alloc (.cells #[.slice none 0 0, .slice none 0 0] 35)).alloc (.cells #[.bool true] 4)) := (Fr.refl [] _).alloc _
  obtain ⟨hb1, hb2, hb3⟩ := three_boxes hf3
  have hb4 : ((((w.alloc (.cells #[.slice ap p.length cp, .slice am m.length cm] 35)).alloc (.cells #[.slice bp q.length dp, .slice bm o.length dm] 35)).alloc (.cells #[.slice none 0 0, .slice none 0 0] 35)).alloc (.cells #[.bool true] 4)).heap[w.heap.size + 1 + 1 + 1]? = some (.cells #[.bool true] 4 (0, 0)) := by
    have := heap_alloc_last (((w.alloc (.cells #[.slice ap p.length cp, .slice am m.length cm] 35)).alloc (.cells #[.slice bp q.length dp, .slice bm o.length dm] 35)).alloc (.cells #[.slice none 0 0, .slice none 0 0] 35)) (.cells #[.bool true] 4)
    simpa only [World.size_alloc] using this
  have l1 := eachKind_more _ w.heap.size (w.heap.size + 1) (w.heap.size + 1 + 1 + 1) (by omega) (by omega) ap am bp bm cp cm dp dm p m q o (h1.keep hF) (h2.keep hF) (h3.keep hF) (h4.keep hF) sp sm sq so hb1 hb2 hb4
  have HF := Lib.hid hF; have L1 := Lib.hid l1; have HB3 := Lib.hid hb3
  clear hF l1 hb1 hb2 hb3 hb4 hf3 h1 h2 h3 h4 sp sm sq so
  generalize setB (joinB p q) = r1 at *
  generalize setB (joinB m o) = r2 at *
  generalize joinB p q = j1 at *
  generalize joinB m o = j2 at *
  go_enter Try.func23, Try.ntmps23
  go_wp2_with fail
  refine L1.out.mono ?_
  rintro e w3 ⟨a1, l1, k1, a2, l2, k2, rfl, q1, q2, hf3, hq3⟩
  have hw4 : Fr [w.heap.size + 1 + 1 + 1] w3 (w3.alloc (.cells #[.slice a1 l1 k1, .slice a2 l2 k2] 35)) := (Fr.refl _ _).alloc _
  have hq4 := (Fr.refl [] w3).alloc (.cells #[.slice a1 l1 k1, .slice a2 l2 k2] 35) |>.keep hq3 (by simp)
  have hb4 := (Fr.refl [] w3).alloc (.cells #[.slice a1 l1 k1, .slice a2 l2 k2] 35) |>.keep (hf3.keep HB3.out (by simp)) (by simp)
  have hsz := hf3.size
  simp only [World.size_alloc] at hsz
  have q1' := q1.keepB hw4 hq3 (noInt_bool _)
  have q2' := q2.keepB hw4 hq3 (noInt_bool _)
  have hfa : Fr [] w (w3.alloc (.cells #[.slice a1 l1 k1, .slice a2 l2 k2] 35)) := (HF.out.trans_new hf3 (by intro x hx; simp at hx; omega)).alloc _
  have hn4 := heap_alloc_last w3 (.cells #[.slice a1 l1 k1, .slice a2 l2 k2] 35)
  obtain ⟨g, hg⟩ : ∃ g, w3.heap.size = g := ⟨_, rfl⟩
  rw [hg] at hn4
  have hgn : w.heap.size + 1 + 1 + 1 < g := by omega
  obtain ⟨w4, hw4e⟩ : ∃ w4, w3.alloc (.cells #[.slice a1 l1 k1, .slice a2 l2 k2] 35) = w4 := ⟨_, rfl⟩
  have HW4 := Lib.hid hw4e; have HG := Lib.hid hg
  rw [hw4e] at hq4 hb4 q1' q2' hfa hn4
  have hz0 := box_cell hq4 0
  have hy0 := box_cell hb4 0
  have hy1 := box_cell hb4 1
  have hy2 := box_free hb4 0
  have hy3 := box_free hb4 1
  have hx0 := box_cell hn4 0
  have hx1 := box_cell hn4 1
  simp only [List.getElem?_toArray, List.getElem?_cons_zero, List.getElem?_cons_succ] at hz0 hy0 hy1 hx0 hx1
  have Q1 := Lib.hid q1'; have Q2 := Lib.hid q2'; have HB := Lib.hid hb4; have HFA := Lib.hid hfa
  clear hw4 hq4 hb4 q1' q2' hfa hn4 hw4e hg hf3 hq3 q1 q2 hsz L1 HB3
  go_upto_region 3 with fail
  rw [HW4.out, HG.out]
  clear HW4 HG
  cases r1 <;> cases r2
  all_goals simp only [Bool.and_true, Bool.and_false, Bool.false_and, Bool.and_self] at *
  rotate_left 3
  · go_wp2_with fail
    have hB := box_store2 (u0 := .slice a1 l1 k1) (u1 := .slice a2 l2 k2) HB.out
    have hfB : Fr [w.heap.size + 1 + 1] w4 ((w4.setCell ⟨w.heap.size + 1 + 1, 0, none⟩ (.slice a1 l1 k1)).setCell ⟨w.heap.size + 1 + 1, 1, none⟩ (.slice a2 l2 k2)) := ((Fr.refl _ _).setCell (.inl (by simp)) _).setCell (.inl (by simp)) _
    have hd0 := box_cell hB 0
    have hd1 := box_cell hB 1
    simp only [List.getElem?_toArray, List.getElem?_cons_zero, List.getElem?_cons_succ] at hd0 hd1
    have e1 := Q1.out.1 rfl
    have e2 := Q2.out.1 rfl
    refine bodyPost_ret (v := .tuple #[.agg #[.slice a1 l1 k1, .slice a2 l2 k2], .bool true]) ?_ rfl ⟨a1, l1, k1, a2, l2, k2, rfl, ⟨fun _ => ⟨⟨e1.1, e1.2.keepB hfB HB.out (noInt_two _ _ _ _ _ _)⟩, e2.1, e2.2.keepB hfB HB.out (noInt_two _ _ _ _ _ _)⟩, (fun h => by cases h)⟩, HFA.out.trans_new hfB (by intro x hx; simp at hx; omega)⟩
    generalize ((w4.setCell ⟨w.heap.size + 1 + 1, 0, none⟩ (.slice a1 l1 k1)).setCell ⟨w.heap.size + 1 + 1, 1, none⟩ (.slice a2 l2 k2)) = wf at *
    simp [results, Try.f23, go_sem, hd0, hd1]
  all_goals
    go_wp2_with fail
    have hB := box_store2 (u0 := .slice none 0 0) (u1 := .slice none 0 0) HB.out
    have hfB : Fr [w.heap.size + 1 + 1] w4 ((w4.setCell ⟨w.heap.size + 1 + 1, 0, none⟩ (.slice none 0 0)).setCell ⟨w.heap.size + 1 + 1, 1, none⟩ (.slice none 0 0)) := ((Fr.refl _ _).setCell (.inl (by simp)) _).setCell (.inl (by simp)) _
    have hd0 := box_cell hB 0
    have hd1 := box_cell hB 1
    simp only [List.getElem?_toArray, List.getElem?_cons_zero, List.getElem?_cons_succ] at hd0 hd1
    refine bodyPost_ret (v := .tuple #[.agg #[.slice none 0 0, .slice none 0 0], .bool false]) ?_ rfl ⟨none, 0, 0, none, 0, 0, rfl, ⟨(fun h => by cases h), fun _ => ⟨rfl, rfl, rfl, rfl, rfl, rfl⟩⟩, HFA.out.trans_new hfB (by intro x hx; simp at hx; omega)⟩
    generalize ((w4.setCell ⟨w.heap.size + 1 + 1, 0, none⟩ (.slice none 0 0)).setCell ⟨w.heap.size + 1 + 1, 1, none⟩ (.slice none 0 0)) = wf at *
    simp [results, Try.f23, go_sem, hd0, hd1]
end Go.Proofs.Ytdbhppfpalpfmaa
