/-
  SHA-256 of a slice without bytes, whatever its address.
-/
import Derived.Test.YthegllpmefilkaaDoorShaSum
namespace Go.Proofs.YthegllpmefilkaaDoor
open Go.RowKit Go.MapKept
set_option maxRecDepth 100000 in
set_option maxHeartbeats 2000000 in
theorem sha_zero (w : World) (a : Addr) (hT : TabAt w) :
    Calls Tryd.prog 9 #[.slice (some a) 0 0] w (NewB w (shaB [])) := by
  have HT := Lib.hid hT; clear hT
  go_enter Tryd.func9, Tryd.ntmps9
  go_wp2_with fail
  refine (firstState_calls w).mono ?_
  rintro e w1 ⟨rfl, hf1⟩
  have h8 : st0.l.length = 8 := rfl
  obtain ⟨l0, hl0⟩ : ∃ l0, st0.l = l0 := ⟨_, rfl⟩
  rw [hl0] at h8 ⊢
  have H8 := Lib.hid h8; have HL0 := Lib.hid hl0; clear h8 hl0
  go_wp2_with (first
    | ((with_reducible_and_instances refine id (α := wpList _ _ _ (⟨some 3, .alloc 36, _, _, _, _⟩ :: _) _ _) ?_); refine wL_allocW rfl 36 rfl _ Tryd.zero36 ?_)
    | ((with_reducible_and_instances refine id (α := wpList _ _ _ (⟨none, .store 36 (.tmp 3) (.tmp 5), _, _, _, _⟩ :: _) _ _) ?_); refine wL_storeNew rfl 36 (.tmp 3) (.tmp 5) rfl w1 w1.heap.size rfl rfl (wv l0) rfl (wv (pad0 8 [])) (Tryd.info36 l0 H8.out) (pad_size 8 l0 H8.out) (wv_one _) ?_)
    | fail)
  have hf2 : Fr [] w (w1.alloc (.cells (wv l0) 36)) := hf1.alloc _
  have hcur : (w1.alloc (.cells (wv l0) 36)).heap[w1.heap.size]? = some (.cells (wv l0) 36 (0, 0)) := heap_alloc_last _ _
  have hT2 := HT.out.keep hf2 (by simp)
  have hg0 : w.heap.size ≤ w1.heap.size := hf1.size
  generalize w1.alloc (.cells (wv l0) 36) = w2 at *
  generalize w1.heap.size = g at *
  have hcd : w2.drew.heap[g]? = some (.cells (wv l0) 36 (0, 0)) := hcur
  have hrg : w2.drew.rangeAt g 0 (l0.map (Value.int .u32)) := fun j v hv => by
    rw [box_cell hcd]; simpa [wv] using hv
  have hmx : Calls Tryd.prog 18 #[.agg (wv st0.l), .slice (some a) 0 0] w2.drew fun e w' => e = .returned (.agg (wv st0.l)) ∧ Fr [] w2.drew w' := mixAll_calls w2.drew st0 (some a) 0 0 [] (fun h => by omega) rfl (by omega) hT2
  rw [HL0.out] at hmx
  have hfd : Fr [] w w2.drew := hf2.drew
  have HC := Lib.hid hcd; have HRG := Lib.hid hrg; have HMX := Lib.hid hmx; have HFD := Lib.hid hfd; have HT2 := Lib.hid hT2
  clear hcd hrg hmx hfd hcur hT2 hf2 hf1
  refine wp_region_still_tail 4 (by kernel_rfl) (by kernel_rfl) ?_
  change wpStill _ _ w2.drew _ _ _
  simp only [List.take_succ_cons, List.take_zero, List.drop_succ_cons, List.drop_zero]
  refine wpStill_loadMid rfl 36 (.tmp 3) rfl g 0 rfl (l0.map (Value.int .u32)) HRG.out 8 34 Tryd.underlying36 (Tryd.info36 l0 H8.out) ?_
  iterate 3 still_step
  refine wpStill_nil ?_
  change wpList _ _ _ _ _ w2.drew
  go_wp2_with fail
  refine HMX.out.mono ?_
  rintro e w3 ⟨rfl, hf3⟩
  clear HMX
  obtain ⟨t1, ht1⟩ : ∃ t1, st0 = t1 := ⟨_, rfl⟩
  have h81 := H8.out
  have hl1 : t1.l = l0 := by rw [← ht1]; exact HL0.out
  have hF3 : Fr [] w (w3.setRow g (wv l0)) := (HFD.out.trans hf3).setRow (.inr hg0)
  have hG3 : w3.heap[g]? = some (.cells (wv l0) 36 (0, 0)) := hf3.keep HC.out (by simp)
  have hG4 : (w3.setRow g (wv l0)).heap[g]? = some (.cells (wv l0) 36 (0, 0)) := setRow_heap _ _ _ _ _ _ hG3
  have HF3 := Lib.hid hF3; have HG3 := Lib.hid hG3; have HG4 := Lib.hid hG4; have H81 := Lib.hid h81; have HL1 := Lib.hid hl1; have HT1 := Lib.hid ht1
  clear hF3 hG3 hG4 h81 hl1 ht1 hf3 HC HRG HFD HT2
  go_wp2_with (first
    | ((with_reducible_and_instances refine id (α := wpList _ _ _ (⟨none, .store 36 (.tmp 3) (.tmp 16), _, _, _, _⟩ :: _) _ _) ?_); refine wL_storeW rfl 36 (.tmp 3) (.tmp 16) rfl g rfl (wv l0) rfl 36 _ HG3.out (Tryd.info36 l0 H81.out) rfl (wv_one _) ?_)
    | fail)
  generalize w3.setRow g (wv l0) = w4 at *
  have hT4 := HT.out.keep HF3.out (by simp)
  obtain ⟨q, hq⟩ : ∃ q, endL [] 64 0 8 = q := ⟨_, rfl⟩
  have hql : q.length = 64 := by rw [← hq, endL_length]
  have hend : Calls Tryd.prog 19 #[.slice (some a) 0 0, .int .u64 0] w4.drew (fun e w' => e = .returned (.slice (some ⟨w4.heap.size, 0, none⟩) 64 64) ∧ EndAt w4.drew w' q) := by
    rw [← hq]
    exact ending_calls w4.drew (some a) 0 [] 0 64 (fun h0 => by simp at h0) (by simp) (.inl ⟨rfl, by simp⟩) (by omega)
  obtain ⟨a1, b1, c1, d1, s1, f1, g1, h1⟩ := t1
  have hmix : ∀ w5, EndAt w4.drew w5 q → Calls Tryd.prog 18 #[.agg #[.int .u32 a1, .int .u32 b1, .int .u32 c1, .int .u32 d1, .int .u32 s1, .int .u32 f1, .int .u32 g1, .int .u32 h1], .slice (some ⟨w4.heap.size, 0, none⟩) 64 64] w5
      fun e w' => e = .returned (.agg (wv (mixN ⟨a1, b1, c1, d1, s1, f1, g1, h1⟩ q 1).l)) ∧ Fr [] w5 w' := fun w5 h =>
    mixAll_calls w5 ⟨a1, b1, c1, d1, s1, f1, g1, h1⟩ (some ⟨w4.heap.size, 0, none⟩) 1 64 q (fun _ => ⟨_, 0, rfl, fun j v hv => by have := box_cell (w := w5) (p := w4.heap.size) h.row j; rw [Nat.zero_add, this, List.getElem?_toArray]; exact hv⟩) hql (by omega) (TabAt.keep (w := w4.drew) hT4 h.fr (by simp))
  have hg4 := HG4.out
  rw [← HL1.out] at hg4
  have hsum : shaB [] = outB (mixN ⟨a1, b1, c1, d1, s1, f1, g1, h1⟩ q 1).l := by
    rw [← HT1.out, ← hq]
    exact sha_split [] 0 1 rfl (.inl ⟨rfl, by simp⟩)
  obtain ⟨t2, ht2⟩ : ∃ t2, mixN ⟨a1, b1, c1, d1, s1, f1, g1, h1⟩ q 1 = t2 := ⟨_, rfl⟩
  simp only [ht2] at hmix hsum
  clear ht2
  obtain ⟨a2, b2, c2, d2, s2, f2, g2, h2⟩ := t2
  have HEN := Lib.hid hend
  have hmix' : ∀ w5, EndAt w4.drew w5 q → Calls Tryd.prog 18 #[.agg #[.int .u32 a1, .int .u32 b1, .int .u32 c1, .int .u32 d1, .int .u32 s1, .int .u32 f1, .int .u32 g1, .int .u32 h1], .slice (some ⟨w4.heap.size, 0, none⟩) 64 64] w5
      fun e w' => e = .returned (.agg #[.int .u32 a2, .int .u32 b2, .int .u32 c2, .int .u32 d2, .int .u32 s2, .int .u32 f2, .int .u32 g2, .int .u32 h2]) ∧ Fr [] w5 w' := hmix
  have HMX := Lib.hid hmix'
  have HSU := Lib.hid hsum
  have HG0 := Lib.hid hg0
  have hFd : Fr [] w w4.drew := HF3.out.drew
  have HFD := Lib.hid hFd
  have hgd : w4.drew.heap[g]? = some (.cells (wv [a1, b1, c1, d1, s1, f1, g1, h1]) 36 (0, 0)) := hg4
  have HGD := Lib.hid hgd
  obtain ⟨⟨q0, q1, q2, q3, q4, q5, q6, q7⟩, _⟩ := cells8 hg4
  clear hg0 hend hT4 hg4 hmix hmix' hsum hq hql hFd hgd
  go_region_with (first
    | (go_at_call 19; (try rw [show IntKind.u64.wrap 0 = 0 from rfl]); (with_reducible refine HEN.out.mono ?_); rintro e w5 ⟨rfl, hE⟩; have hG5 := hE.fr.keep HGD.out (by simp); obtain ⟨⟨r0, r1, r2, r3, r4, r5, r6, r7⟩, _⟩ := cells8 hG5)
    | (go_at_call 18; (with_reducible refine (HMX.out _ hE).mono ?_); rintro e w6 ⟨rfl, hf6⟩; have hG6 := hf6.keep hG5 (by simp); have hF6 := (HFD.out.trans hE.fr).trans hf6; obtain ⟨⟨u0, u1, u2, u3, u4, u5, u6, u7⟩, ⟨v0, v1, v2, v3, v4, v5, v6, v7⟩⟩ := cells8 hG6))
  all_goals
    have hF7 : Fr [] w ((((((((w6.setCell ⟨g, 0, none⟩ (.int .u32 a2)).setCell ⟨g, 1, none⟩ (.int .u32 b2)).setCell ⟨g, 2, none⟩ (.int .u32 c2)).setCell ⟨g, 3, none⟩ (.int .u32 d2)).setCell ⟨g, 4, none⟩ (.int .u32 s2)).setCell ⟨g, 5, none⟩ (.int .u32 f2)).setCell ⟨g, 6, none⟩ (.int .u32 g2)).setCell ⟨g, 7, none⟩ (.int .u32 h2)) := ((((((((hF6.setCell (p := ⟨g, 0, none⟩) (.inr HG0.out) (.int .u32 a2)).setCell (p := ⟨g, 1, none⟩) (.inr HG0.out) (.int .u32 b2)).setCell (p := ⟨g, 2, none⟩) (.inr HG0.out) (.int .u32 c2)).setCell (p := ⟨g, 3, none⟩) (.inr HG0.out) (.int .u32 d2)).setCell (p := ⟨g, 4, none⟩) (.inr HG0.out) (.int .u32 s2)).setCell (p := ⟨g, 5, none⟩) (.inr HG0.out) (.int .u32 f2)).setCell (p := ⟨g, 6, none⟩) (.inr HG0.out) (.int .u32 g2)).setCell (p := ⟨g, 7, none⟩) (.inr HG0.out) (.int .u32 h2))
    have hG7 : (((((((((w6.setCell ⟨g, 0, none⟩ (.int .u32 a2)).setCell ⟨g, 1, none⟩ (.int .u32 b2)).setCell ⟨g, 2, none⟩ (.int .u32 c2)).setCell ⟨g, 3, none⟩ (.int .u32 d2)).setCell ⟨g, 4, none⟩ (.int .u32 s2)).setCell ⟨g, 5, none⟩ (.int .u32 f2)).setCell ⟨g, 6, none⟩ (.int .u32 g2)).setCell ⟨g, 7, none⟩ (.int .u32 h2))).heap[g]? = some (.cells (wv [a2, b2, c2, d2, s2, f2, g2, h2]) 36 (0, 0)) := set8 hG6 a2 b2 c2 d2 s2 f2 g2 h2
    generalize ((((((((w6.setCell ⟨g, 0, none⟩ (.int .u32 a2)).setCell ⟨g, 1, none⟩ (.int .u32 b2)).setCell ⟨g, 2, none⟩ (.int .u32 c2)).setCell ⟨g, 3, none⟩ (.int .u32 d2)).setCell ⟨g, 4, none⟩ (.int .u32 s2)).setCell ⟨g, 5, none⟩ (.int .u32 f2)).setCell ⟨g, 6, none⟩ (.int .u32 g2)).setCell ⟨g, 7, none⟩ (.int .u32 h2)) = w7 at *
    have hby := stbytes_calls w7 ⟨a2, b2, c2, d2, s2, f2, g2, h2⟩
    rw [← HSU.out, show St.l ⟨a2, b2, c2, d2, s2, f2, g2, h2⟩ = [a2, b2, c2, d2, s2, f2, g2, h2] from rfl] at hby
    have h28 : [a2, b2, c2, d2, s2, f2, g2, h2].length = 8 := rfl
    generalize [a2, b2, c2, d2, s2, f2, g2, h2] = l2 at hG7 hby h28
    have HF7 := Lib.hid hF7; have HG7 := Lib.hid hG7; have HBY := Lib.hid hby; have H28 := Lib.hid h28
    clear hby h28 hF7 hG7 hF6 hG6 hG5 hE hf6 q0 q1 q2 q3 q4 q5 q6 q7 r0 r1 r2 r3 r4 r5 r6 r7 u0 u1 u2 u3 u4 u5 u6 u7 v0 v1 v2 v3 v4 v5 v6 v7
    go_wp2_with (first
      | ((with_reducible_and_instances refine id (α := wpList _ _ _ (⟨some 26, .load 36 (.tmp 3), _, _, _, _⟩ :: _) _ _) ?_); refine wpList_load_row rfl 36 (.tmp 3) rfl g rfl 36 (wv l2) (0, 0) _ HG7.out Tryd.underlying36 rfl (Tryd.info36 l2 H28.out) ?_)
      | fail)
    refine HBY.out.mono ?_
    rintro e w8 ⟨v, rfl, hown, hf8⟩
    go_wp2_with fail
    go_ret
    exact ⟨v, rfl, ownsRow_lower hown HF7.out.size, HF7.out.trans hf8⟩
end Go.Proofs.YthegllpmefilkaaDoor
