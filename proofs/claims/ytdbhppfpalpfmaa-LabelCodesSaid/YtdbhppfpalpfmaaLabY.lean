/-
  eachKind, Less: capabilities made by one rule.
-/
import Derived.Test.YtdbhppfpalpfmaaLabX
namespace Go.Proofs.Ytdbhppfpalpfmaa
open Go.RowKit Go.MapKept
def NoInt (vs : Array Value) : Prop := ∀ (i : Nat) (n : Int), vs[i]? ≠ some (Value.int .i64 n)
theorem noInt_two (a b : Option Addr) (n m c d : Nat) : NoInt #[.slice a n c, .slice b m d] := fun i k => by
  match i with
  | 0 => simp
  | 1 => simp
  | i + 2 => simp
theorem noInt_bool (b : Bool) : NoInt #[.bool b] := fun i k => by
  match i with
  | 0 => simp
  | i + 1 => simp
/-- What is written holds no int: so no list of ints turns. -/
theorem RdI.keepB {w w' : World} {B : Nat} {vs : Array Value} {T : TypeId} {fr : Nat × Nat} {ad : Option Addr} {cap : Nat} {zs : List Int} (h : RdI w ad cap zs) (hf : Fr [B] w w') (hb : w.heap[B]? = some (.cells vs T fr)) (hv : NoInt vs) : RdI w' ad cap zs :=
  ⟨h.le, h.cb, h.big, h.nil, fun a ha hl => by
    obtain ⟨b, off, rfl, hc⟩ := h.at_ a ha hl
    refine ⟨b, off, rfl, fun j hj => ?_⟩
    have hcj := hc j hj
    have hne : b ≠ B := fun e => by
      subst e
      rw [box_cell hb] at hcj
      exact hv _ _ hcj
    rw [World.cell?_of_block (w := w) (hf.block b (World.block_lt_of_cell? _ _ hcj) (by simpa using hne))]
    exact hcj⟩
theorem box_store2 {w : World} {B : Nat} {T : TypeId} {v0 v1 u0 u1 : Value} (hb : w.heap[B]? = some (.cells #[v0, v1] T (0, 0))) : ((w.setCell ⟨B, 0, none⟩ u0).setCell ⟨B, 1, none⟩ u1).heap[B]? = some (.cells #[u0, u1] T (0, 0)) := by
  have h1 := box_set hb 0 u0
  have h2 := box_set h1 1 u1
  simpa using h2
set_option maxRecDepth 100000 in
set_option maxHeartbeats 2000000 in
theorem eachKind_less (w : World) (B1 B2 : Nat) (ap am bp bm : Option Addr) (cp cm dp dm : Nat) (p m q o : List Int) (h1 : RdI w ap cp p) (h2 : RdI w am cm m) (h3 : RdI w bp dp q) (h4 : RdI w bm dm o) (hb1 : w.heap[B1]? = some (.cells #[.slice ap p.length cp, .slice am m.length cm] 35 (0, 0))) (hb2 : w.heap[B2]? = some (.cells #[.slice bp q.length dp, .slice bm o.length dm] 35 (0, 0))) :
    Calls Try.prog 54 #[.func (.func 59) #[] #[.pointer (some ⟨B1, 0, none⟩), .pointer (some ⟨B2, 0, none⟩)]] w fun e w' => ∃ a1 a2 k1 k2, e = .returned (.agg #[.slice a1 (lessB p q).length k1, .slice a2 (lessB m o).length k2]) ∧ RdI w' a1 k1 (lessB p q) ∧ RdI w' a2 k2 (lessB m o) ∧ Fr [] w w' := by
  have hF : Fr [] w (w.alloc (.cells #[.slice none 0 0, .slice none 0 0] 35)) := (Fr.refl [] w).alloc _
  have l1 := less1_plus _ B1 B2 ap am bp bm cp cm dp dm p m q o (h1.keep hF) (h2.keep hF) (h3.keep hF) (h4.keep hF) (hF.keep hb1 (by simp)) (hF.keep hb2 (by simp))
  have l2 : ∀ w', Fr [] (w.alloc (.cells #[.slice none 0 0, .slice none 0 0] 35)) w' → Calls Try.prog 59 #[.func (.func 58) #[] #[], .pointer (some ⟨B1, 0, none⟩), .pointer (some ⟨B2, 0, none⟩)] w' _ :=
    fun w' hf => less1_minus w' B1 B2 ap am bp bm cp cm dp dm p m q o (h1.keep (hF.trans hf)) (h2.keep (hF.trans hf)) (h3.keep (hF.trans hf)) (h4.keep (hF.trans hf)) ((hF.trans hf).keep hb1 (by simp)) ((hF.trans hf).keep hb2 (by simp))
  have hbx : ∀ w', Fr [] (w.alloc (.cells #[.slice none 0 0, .slice none 0 0] 35)) w' → w'.heap[w.heap.size]? = some (.cells #[.slice none 0 0, .slice none 0 0] 35 (0, 0)) := fun w' hf => hf.keep (heap_alloc_last w _) (by simp)
  have HF := Lib.hid hF; have L1 := Lib.hid l1; have L2 := Lib.hid l2; have HBX := Lib.hid hbx
  clear hF l1 l2 hbx h1 h2 h3 h4 hb1 hb2
  go_enter Try.func54, Try.ntmps54
  go_wp2_with fail
  refine L1.out.mono ?_
  rintro e w2 ⟨a1, k1, rfl, r1, hf2⟩
  have l2 := L2.out w2 hf2
  have HF2 := Lib.hid hf2; have R1 := Lib.hid r1
  clear hf2 r1 L1 L2
  go_wp2_with fail
  refine l2.mono ?_
  rintro e w3 ⟨a2, k2, rfl, r2, hf3⟩
  have hb := HBX.out w3 (HF2.out.trans hf3)
  have hc0 := box_cell hb 0
  have hc1 := box_cell hb 1
  have hr0 := box_free hb 0
  have hr1 := box_free hb 1
  simp only [List.getElem?_toArray, List.getElem?_cons_zero, List.getElem?_cons_succ] at hc0 hc1
  have R1' := Lib.hid (R1.out.keep hf3)
  have R2 := Lib.hid r2; have HF3 := Lib.hid ((HF.out.trans HF2.out).trans hf3); have HB := Lib.hid hb
  clear hf3 r2 hb HBX HF HF2 R1 l2
  go_wp2_with fail
  have hB := box_store2 (u0 := .slice a1 (lessB p q).length k1) (u1 := .slice a2 (lessB m o).length k2) HB.out
  have hfB : Fr [w.heap.size] w3 ((w3.setCell ⟨w.heap.size, 0, none⟩ (.slice a1 (lessB p q).length k1)).setCell ⟨w.heap.size, 1, none⟩ (.slice a2 (lessB m o).length k2)) := ((Fr.refl _ _).setCell (.inl (by simp)) _).setCell (.inl (by simp)) _
  have hd0 := box_cell hB 0
  have hd1 := box_cell hB 1
  simp only [List.getElem?_toArray, List.getElem?_cons_zero, List.getElem?_cons_succ] at hd0 hd1
  refine bodyPost_ret (v := .agg #[.slice a1 (lessB p q).length k1, .slice a2 (lessB m o).length k2]) ?_ rfl ⟨a1, a2, k1, k2, rfl, R1'.out.keepB hfB HB.out (noInt_two _ _ _ _ _ _), R2.out.keepB hfB HB.out (noInt_two _ _ _ _ _ _), HF3.out.trans_new hfB (by intro x hx; simp at hx; omega)⟩
  generalize ((w3.setCell ⟨w.heap.size, 0, none⟩ (.slice a1 (lessB p q).length k1)).setCell ⟨w.heap.size, 1, none⟩ (.slice a2 (lessB m o).length k2)) = wf at *
  simp [results, Try.f54, go_sem, hd0, hd1]
set_option maxRecDepth 100000 in
set_option maxHeartbeats 2000000 in
theorem less_calls (w : World) (ap am bp bm : Option Addr) (cp cm dp dm : Nat) (p m q o : List Int) (h1 : RdI w ap cp p) (h2 : RdI w am cm m) (h3 : RdI w bp dp q) (h4 : RdI w bm dm o) :
    Calls Try.prog 36 #[.agg #[.slice ap p.length cp, .slice am m.length cm], .agg #[.slice bp q.length dp, .slice bm o.length dm]] w fun e w' => ∃ a1 a2 k1 k2, e = .returned (.agg #[.slice a1 (lessB p q).length k1, .slice a2 (lessB m o).length k2]) ∧ RdI w' a1 k1 (lessB p q) ∧ RdI w' a2 k2 (lessB m o) ∧ Fr [] w w' := by
  have hF : Fr [] w (((w.alloc (.cells #[.slice ap p.length cp, .slice am m.length cm] 35)).alloc (.cells #[.slice bp q.length dp, .slice bm o.length dm] 35)).alloc (.cells #[.slice none 0 0, .slice none 0 0] 35)) := (((Fr.refl [] w).alloc _).alloc _).alloc _
  obtain ⟨hb1, hb2, hb3⟩ := three_boxes (Fr.refl [] (((w.alloc (.cells #[.slice ap p.length cp, .slice am m.length cm] 35)).alloc (.cells #[.slice bp q.length dp, .slice bm o.length dm] 35)).alloc (.cells #[.slice none 0 0, .slice none 0 0] 35)))
  have l1 := eachKind_less _ w.heap.size (w.heap.size + 1) ap am bp bm cp cm dp dm p m q o (h1.keep hF) (h2.keep hF) (h3.keep hF) (h4.keep hF) hb1 hb2
  have HF := Lib.hid hF; have L1 := Lib.hid l1; have HB3 := Lib.hid hb3
  clear hF l1 hb1 hb2 hb3 h1 h2 h3 h4
  go_enter Try.func36, Try.ntmps36
  go_wp2_with fail
  refine L1.out.mono ?_
  rintro e w3 ⟨a1, a2, k1, k2, rfl, r1, r2, hf3⟩
  have hb := hf3.keep HB3.out (by simp)
  have hc0 := box_cell hb 0
  have hc1 := box_cell hb 1
  have hr0 := box_free hb 0
  have hr1 := box_free hb 1
  simp only [List.getElem?_toArray, List.getElem?_cons_zero, List.getElem?_cons_succ] at hc0 hc1
  have R1 := Lib.hid r1; have R2 := Lib.hid r2; have HF3 := Lib.hid (HF.out.trans hf3); have HB := Lib.hid hb
  clear hf3 r1 r2 hb HF L1 HB3
  go_wp2_with fail
  have hB := box_store2 (u0 := .slice a1 (lessB p q).length k1) (u1 := .slice a2 (lessB m o).length k2) HB.out
  have hfB : Fr [w.heap.size + 1 + 1] w3 ((w3.setCell ⟨w.heap.size + 1 + 1, 0, none⟩ (.slice a1 (lessB p q).length k1)).setCell ⟨w.heap.size + 1 + 1, 1, none⟩ (.slice a2 (lessB m o).length k2)) := ((Fr.refl _ _).setCell (.inl (by simp)) _).setCell (.inl (by simp)) _
  have hd0 := box_cell hB 0
  have hd1 := box_cell hB 1
  simp only [List.getElem?_toArray, List.getElem?_cons_zero, List.getElem?_cons_succ] at hd0 hd1
  refine bodyPost_ret (v := .agg #[.slice a1 (lessB p q).length k1, .slice a2 (lessB m o).length k2]) ?_ rfl ⟨a1, a2, k1, k2, rfl, R1.out.keepB hfB HB.out (noInt_two _ _ _ _ _ _), R2.out.keepB hfB HB.out (noInt_two _ _ _ _ _ _), HF3.out.trans_new hfB (by intro x hx; simp at hx; omega)⟩
  generalize ((w3.setCell ⟨w.heap.size + 1 + 1, 0, none⟩ (.slice a1 (lessB p q).length k1)).setCell ⟨w.heap.size + 1 + 1, 1, none⟩ (.slice a2 (lessB m o).length k2)) = wf at *
  simp [results, Try.f36, go_sem, hd0, hd1]
end Go.Proofs.Ytdbhppfpalpfmaa
