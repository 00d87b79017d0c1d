/-
  eachKind, for More.
-/
import Derived.Test.YtdbhppfpalpfmaaLabP
namespace Go.Proofs.Ytdbhppfpalpfmaa
open Go.RowKit Go.MapKept
set_option maxRecDepth 100000 in
set_option maxHeartbeats 2000000 in
theorem eachKind_more (w : World) (B1 B2 B3 : Nat) (n13 : B1 ≠ B3) (n23 : B2 ≠ B3) (ap am bp bm : Option Addr) (cp cm dp dm : Nat) (p m q o : List Int) (h1 : RdI w ap cp p) (h2 : RdI w am cm m) (h3 : RdI w bp dp q) (h4 : RdI w bm dm o) (sp : setB p = true) (sm : setB m = true) (sq : setB q = true) (so : setB o = true) (hb1 : w.heap[B1]? = some (.cells #[.slice ap p.length cp, .slice am m.length cm] 35 (0, 0))) (hb2 : w.heap[B2]? = some (.cells #[.slice bp q.length dp, .slice bm o.length dm] 35 (0, 0))) (hb3 : w.heap[B3]? = some (.cells #[.bool true] 4 (0, 0))) :
    Calls Try.prog 54 #[.func (.func 55) #[] #[.pointer (some ⟨B1, 0, none⟩), .pointer (some ⟨B2, 0, none⟩), .pointer (some ⟨B3, 0, none⟩)]] w fun e w' => ∃ a1 l1 k1 a2 l2 k2, e = .returned (.agg #[.slice a1 l1 k1, .slice a2 l2 k2]) ∧ MoreQ w' a1 l1 k1 (setB (joinB p q)) (joinB p q) ∧ MoreQ w' a2 l2 k2 (setB (joinB m o)) (joinB m o) ∧ Fr [B3] w w' ∧ w'.heap[B3]? = some (.cells #[.bool (setB (joinB p q) && setB (joinB m o))] 4 (0, 0)) := by
  have hF : Fr [] w (w.alloc (.cells #[.slice none 0 0, .slice none 0 0] 35)) := (Fr.refl [] w).alloc _
  have hlt := lt_of_heap hb3
  have l1 := more1_plus _ B1 B2 B3 ap am bp bm cp cm dp dm p m q o (h1.keep hF) (h2.keep hF) (h3.keep hF) (h4.keep hF) sp sm sq so true (hF.keep hb1 (by simp)) (hF.keep hb2 (by simp)) (hF.keep hb3 (by simp))
  have l2 : ∀ w', Fr [B3] (w.alloc (.cells #[.slice none 0 0, .slice none 0 0] 35)) w' → w'.heap[B3]? = some (.cells #[.bool (true && setB (joinB p q))] 4 (0, 0)) → Calls Try.prog 55 #[.func (.func 58) #[] #[], .pointer (some ⟨B1, 0, none⟩), .pointer (some ⟨B2, 0, none⟩), .pointer (some ⟨B3, 0, none⟩)] w' _ :=
    fun w' hf hb => more1_minus w' B1 B2 B3 ap am bp bm cp cm dp dm p m q o ((h1.keep hF).keepB hf (hF.keep hb3 (by simp)) (noInt_bool _)) ((h2.keep hF).keepB hf (hF.keep hb3 (by simp)) (noInt_bool _)) ((h3.keep hF).keepB hf (hF.keep hb3 (by simp)) (noInt_bool _)) ((h4.keep hF).keepB hf (hF.keep hb3 (by simp)) (noInt_bool _)) sp sm sq so _ (hf.keep (hF.keep hb1 (by simp)) (by simpa using n13)) (hf.keep (hF.keep hb2 (by simp)) (by simpa using n23)) hb
  have hbx : ∀ w', Fr [B3] (w.alloc (.cells #[.slice none 0 0, .slice none 0 0] 35)) w' → w'.heap[w.heap.size]? = some (.cells #[.slice none 0 0, .slice none 0 0] 35 (0, 0)) := fun w' hf => hf.keep (heap_alloc_last w _) (by simp; omega)
  have HF := Lib.hid hF; have L1 := Lib.hid l1; have L2 := Lib.hid l2; have HBX := Lib.hid hbx; have HLT := Lib.hid hlt
  clear hF l1 l2 hbx h1 h2 h3 h4 hb1 hb2 hb3 hlt sp sm sq so n13 n23
  simp only [Bool.true_and] at L1
  go_enter Try.func54, Try.ntmps54
  go_wp2_with fail
  refine L1.out.mono ?_
  rintro e w2 ⟨a1, l1, k1, rfl, r1, hf2, hq2⟩
  have l2' := L2.out w2 hf2 (by simpa using hq2)
  have HF2 := Lib.hid hf2; have R1 := Lib.hid r1; have HQ2 := Lib.hid hq2
  clear hf2 r1 hq2 L1 L2
  go_wp2_with fail
  refine l2'.mono ?_
  rintro e w3 ⟨a2, l2, k2, rfl, r2, hf3, hq3⟩
  have hb := HBX.out w3 (HF2.out.trans hf3)
  have hc0 := box_cell hb 0
  have hc1 := box_cell hb 1
  have hr0 := box_free hb 0
  have hr1 := box_free hb 1
  simp only [List.getElem?_toArray, List.getElem?_cons_zero, List.getElem?_cons_succ] at hc0 hc1
  have R1' := Lib.hid (R1.out.keepB hf3 HQ2.out (noInt_bool _))
  have R2 := Lib.hid r2; have HF3 := Lib.hid (((HF.out.mono (l' := [B3]) (by simp)).trans HF2.out).trans hf3); have HB := Lib.hid hb
  have HQ3 : Hid (w3.heap[B3]? = some (.cells #[.bool (setB (joinB p q) && setB (joinB m o))] 4 (0, 0))) := Lib.hid (by simpa using hq3)
  clear hf3 r2 hb HBX HF HF2 R1 l2' hq3 HQ2
  go_wp2_with fail
  have hB := box_store2 (u0 := .slice a1 l1 k1) (u1 := .slice a2 l2 k2) HB.out
  have hfB : Fr [w.heap.size] w3 ((w3.setCell ⟨w.heap.size, 0, none⟩ (.slice a1 l1 k1)).setCell ⟨w.heap.size, 1, none⟩ (.slice a2 l2 k2)) := ((Fr.refl _ _).setCell (.inl (by simp)) _).setCell (.inl (by simp)) _
  have hd0 := box_cell hB 0
  have hd1 := box_cell hB 1
  have hlt := HLT.out
  simp only [List.getElem?_toArray, List.getElem?_cons_zero, List.getElem?_cons_succ] at hd0 hd1
  refine bodyPost_ret (v := .agg #[.slice a1 l1 k1, .slice a2 l2 k2]) ?_ rfl ⟨a1, l1, k1, a2, l2, k2, rfl, R1'.out.keepB hfB HB.out (noInt_two _ _ _ _ _ _), R2.out.keepB hfB HB.out (noInt_two _ _ _ _ _ _), HF3.out.trans_new hfB (by intro x hx; simp at hx; omega), hfB.keep HQ3.out (by simp; omega)⟩
  generalize ((w3.setCell ⟨w.heap.size, 0, none⟩ (.slice a1 l1 k1)).setCell ⟨w.heap.size, 1, none⟩ (.slice a2 l2 k2)) = wf at *
  simp [results, Try.f54, go_sem, hd0, hd1]
end Go.Proofs.Ytdbhppfpalpfmaa
