/-
  The code's SHA256.
-/
import Derived.Test.YthegllpmefilkaaDoorShaOut
import Derived.Test.YthegllpmefilkaaDoorShaPad
import Derived.Deep.RegionHeld3
namespace Go.Proofs.YthegllpmefilkaaDoor
open Go.RowKit Go.MapKept
theorem BytesAt.nil (w : World) (b off : Nat) : BytesAt w b off [] := fun j v hv => by simp [cel] at hv
/-- A slice of bytes that reads as m. -/
structure Reads (w : World) (ad : Option Addr) (cap : Nat) (m : List UInt8) : Prop where
  le : m.length ≤ cap
  big : cap ≤ 9223372036854775807
  len : m.length ≤ 281474976710656
  nil : ad = none → cap = 0
  at_ : ∀ a, ad = some a → 0 < m.length → ∃ b off, a = ⟨b, off, none⟩ ∧ BytesAt w b off m
theorem BytesAt.stay {w w' : World} {b off : Nat} {m : List UInt8} (hb : BytesAt w b off m) (hf : Fr [] w w') : BytesAt w' b off m := by
  by_cases h0 : 0 < m.length
  · exact hb.keep hf (by simp) (World.block_lt_of_cell? _ _ (hb.cell (j := 0) h0))
  · obtain rfl : m = [] := List.eq_nil_of_length_eq_zero (by omega)
    exact BytesAt.nil _ _ _
theorem Reads.keep {w w' : World} {ad : Option Addr} {cap : Nat} {m : List UInt8} (h : Reads w ad cap m) (hf : Fr [] w w') : Reads w' ad cap m := by
  refine ⟨h.le, h.big, h.len, h.nil, fun a ha h0 => ?_⟩
  obtain ⟨b, off, rfl, hb⟩ := h.at_ a ha h0
  exact ⟨b, off, rfl, hb.stay hf⟩
/-- A state's cells, one by one. -/
theorem cells8 {w : World} {g : Nat} {T : TypeId} {a b c d e f k h : Int} (hg : w.heap[g]? = some (.cells (wv [a, b, c, d, e, f, k, h]) T (0, 0))) :
    (w.cell? ⟨g, 0, none⟩ = some (.int .u32 a) ∧ w.cell? ⟨g, 1, none⟩ = some (.int .u32 b) ∧ w.cell? ⟨g, 2, none⟩ = some (.int .u32 c) ∧ w.cell? ⟨g, 3, none⟩ = some (.int .u32 d) ∧
      w.cell? ⟨g, 4, none⟩ = some (.int .u32 e) ∧ w.cell? ⟨g, 5, none⟩ = some (.int .u32 f) ∧ w.cell? ⟨g, 6, none⟩ = some (.int .u32 k) ∧ w.cell? ⟨g, 7, none⟩ = some (.int .u32 h)) ∧
    (w.frozen? ⟨g, 0, none⟩ = false ∧ w.frozen? ⟨g, 1, none⟩ = false ∧ w.frozen? ⟨g, 2, none⟩ = false ∧ w.frozen? ⟨g, 3, none⟩ = false ∧
      w.frozen? ⟨g, 4, none⟩ = false ∧ w.frozen? ⟨g, 5, none⟩ = false ∧ w.frozen? ⟨g, 6, none⟩ = false ∧ w.frozen? ⟨g, 7, none⟩ = false) := by
  refine ⟨⟨?_, ?_, ?_, ?_, ?_, ?_, ?_, ?_⟩, ?_, ?_, ?_, ?_, ?_, ?_, ?_, ?_⟩ <;> first | exact box_cell hg _ | exact box_free hg _
theorem set8 {w : World} {g : Nat} {T : TypeId} {a b c d e f k h : Int} (hg : w.heap[g]? = some (.cells (wv [a, b, c, d, e, f, k, h]) T (0, 0))) (a2 b2 c2 d2 s2 f2 g2 h2 : Int) :
    (((((((((w.setCell ⟨g, 0, none⟩ (.int .u32 a2)).setCell ⟨g, 1, none⟩ (.int .u32 b2)).setCell ⟨g, 2, none⟩ (.int .u32 c2)).setCell ⟨g, 3, none⟩ (.int .u32 d2)).setCell ⟨g, 4, none⟩ (.int .u32 s2)).setCell ⟨g, 5, none⟩ (.int .u32 f2)).setCell ⟨g, 6, none⟩ (.int .u32 g2)).setCell ⟨g, 7, none⟩ (.int .u32 h2))).heap[g]? = some (.cells (wv [a2, b2, c2, d2, s2, f2, g2, h2]) T (0, 0)) := by
  have h1 := (box_set (box_set (box_set (box_set (box_set (box_set (box_set (box_set hg 0 (.int .u32 a2)) 1 (.int .u32 b2)) 2 (.int .u32 c2)) 3 (.int .u32 d2)) 4 (.int .u32 s2)) 5 (.int .u32 f2)) 6 (.int .u32 g2)) 7 (.int .u32 h2))
  simp only [wv_set] at h1
  exact h1
set_option maxRecDepth 100000 in
set_option maxHeartbeats 2000000 in
theorem sha_nil (w : World) (hT : TabAt w) :
    Calls Tryd.prog 9 #[.slice none 0 0] w (NewB w (shaB [])) := by
  have HT := Lib.hid hT; clear hT
  go_enter Tryd.func9, Tryd.ntmps9
  go_wp2_with fail
  refine (firstState_calls w).mono ?_
  rintro e w1 ⟨rfl, hf1⟩
  have h8 : st0.l.length = 8 := rfl
  obtain ⟨l0, hl0⟩ : ∃ l0, st0.l = l0 := ⟨_, rfl⟩
  rw [hl0] at h8 ⊢
  have H8 := Lib.hid h8; have HL0 := Lib.hid hl0; clear h8 hl0
  go_wp2_with (first
    | ((with_reducible_and_instances refine id (α := wpList _ _ _ (⟨some 3, .alloc 36, _, _, _, _⟩ :: _) _ _) ?_); refine wL_allocW rfl 36 rfl _ Tryd.zero36 ?_)
    | ((with_reducible_and_instances refine id (α := wpList _ _ _ (⟨none, .store 36 (.tmp 3) (.tmp 5), _, _, _, _⟩ :: _) _ _) ?_); refine wL_storeNew rfl 36 (.tmp 3) (.tmp 5) rfl w1 w1.heap.size rfl rfl (wv l0) rfl (wv (pad0 8 [])) (Tryd.info36 l0 H8.out) (pad_size 8 l0 H8.out) (wv_one _) ?_)
    | fail)
  have hf2 : Fr [] w (w1.alloc (.cells (wv l0) 36)) := hf1.alloc _
  have hcur : (w1.alloc (.cells (wv l0) 36)).heap[w1.heap.size]? = some (.cells (wv l0) 36 (0, 0)) := heap_alloc_last _ _
  have hT2 := HT.out.keep hf2 (by simp)
  have hg0 : w.heap.size ≤ w1.heap.size := hf1.size
  generalize w1.alloc (.cells (wv l0) 36) = w2 at *
  generalize w1.heap.size = g at *
  have hcd : w2.drew.heap[g]? = some (.cells (wv l0) 36 (0, 0)) := hcur
  have hrg : w2.drew.rangeAt g 0 (l0.map (Value.int .u32)) := fun j v hv => by
    rw [box_cell hcd]; simpa [wv] using hv
  have hmx : Calls Tryd.prog 18 #[.agg (wv st0.l), .slice none 0 0] w2.drew fun e w' => e = .returned (.agg (wv st0.l)) ∧ Fr [] w2.drew w' := mixAll_calls w2.drew st0 none 0 0 [] (fun h => by omega) rfl (by omega) hT2
  rw [HL0.out] at hmx
  have hfd : Fr [] w w2.drew := hf2.drew
  have HC := Lib.hid hcd; have HRG := Lib.hid hrg; have HMX := Lib.hid hmx; have HFD := Lib.hid hfd; have HT2 := Lib.hid hT2
  clear hcd hrg hmx hfd hcur hT2 hf2 hf1
  refine wp_region_still_tail 4 (by kernel_rfl) (by kernel_rfl) ?_
  change wpStill _ _ w2.drew _ _ _
  simp only [List.take_succ_cons, List.take_zero, List.drop_succ_cons, List.drop_zero]
  refine wpStill_loadMid rfl 36 (.tmp 3) rfl g 0 rfl (l0.map (Value.int .u32)) HRG.out 8 34 Tryd.underlying36 (Tryd.info36 l0 H8.out) ?_
  iterate 3 still_step
  refine wpStill_nil ?_
  change wpList _ _ _ _ _ w2.drew
  go_wp2_with fail
  refine HMX.out.mono ?_
  rintro e w3 ⟨rfl, hf3⟩
  clear HMX
  obtain ⟨t1, ht1⟩ : ∃ t1, st0 = t1 := ⟨_, rfl⟩
  have h81 := H8.out
  have hl1 : t1.l = l0 := by rw [← ht1]; exact HL0.out
  have hF3 : Fr [] w (w3.setRow g (wv l0)) := (HFD.out.trans hf3).setRow (.inr hg0)
  have hG3 : w3.heap[g]? = some (.cells (wv l0) 36 (0, 0)) := hf3.keep HC.out (by simp)
  have hG4 : (w3.setRow g (wv l0)).heap[g]? = some (.cells (wv l0) 36 (0, 0)) := setRow_heap _ _ _ _ _ _ hG3
  have HF3 := Lib.hid hF3; have HG3 := Lib.hid hG3; have HG4 := Lib.hid hG4; have H81 := Lib.hid h81; have HL1 := Lib.hid hl1; have HT1 := Lib.hid ht1
  clear hF3 hG3 hG4 h81 hl1 ht1 hf3 HC HRG HFD HT2
  go_wp2_with (first
    | ((with_reducible_and_instances refine id (α := wpList _ _ _ (⟨none, .store 36 (.tmp 3) (.tmp 16), _, _, _, _⟩ :: _) _ _) ?_); refine wL_storeW rfl 36 (.tmp 3) (.tmp 16) rfl g rfl (wv l0) rfl 36 _ HG3.out (Tryd.info36 l0 H81.out) rfl (wv_one _) ?_)
    | fail)
  generalize w3.setRow g (wv l0) = w4 at *
  have hT4 := HT.out.keep HF3.out (by simp)
  obtain ⟨q, hq⟩ : ∃ q, endL [] 64 0 8 = q := ⟨_, rfl⟩
  have hql : q.length = 64 := by rw [← hq, endL_length]
  have hend : Calls Tryd.prog 19 #[.slice none 0 0, .int .u64 0] w4.drew (fun e w' => e = .returned (.slice (some ⟨w4.heap.size, 0, none⟩) 64 64) ∧ EndAt w4.drew w' q) := by
    rw [← hq]
    exact ending_calls w4.drew none 0 [] 0 64 (fun h0 => by simp at h0) (by simp) (.inl ⟨rfl, by simp⟩) (by omega)
  obtain ⟨a1, b1, c1, d1, s1, f1, g1, h1⟩ := t1
  have hmix : ∀ w5, EndAt w4.drew w5 q → Calls Tryd.prog 18 #[.agg #[.int .u32 a1, .int .u32 b1, .int .u32 c1, .int .u32 d1, .int .u32 s1, .int .u32 f1, .int .u32 g1, .int .u32 h1], .slice (some ⟨w4.heap.size, 0, none⟩) 64 64] w5
      fun e w' => e = .returned (.agg (wv (mixN ⟨a1, b1, c1, d1, s1, f1, g1, h1⟩ q 1).l)) ∧ Fr [] w5 w' := fun w5 h =>
    mixAll_calls w5 ⟨a1, b1, c1, d1, s1, f1, g1, h1⟩ (some ⟨w4.heap.size, 0, none⟩) 1 64 q (fun _ => ⟨_, 0, rfl, fun j v hv => by have := box_cell (w := w5) (p := w4.heap.size) h.row j; rw [Nat.zero_add, this, List.getElem?_toArray]; exact hv⟩) hql (by omega) (TabAt.keep (w := w4.drew) hT4 h.fr (by simp))
  have hg4 := HG4.out
  rw [← HL1.out] at hg4
  have hsum : shaB [] = outB (mixN ⟨a1, b1, c1, d1, s1, f1, g1, h1⟩ q 1).l := by
    rw [← HT1.out, ← hq]
    exact sha_split [] 0 1 rfl (.inl ⟨rfl, by simp⟩)
  obtain ⟨t2, ht2⟩ : ∃ t2, mixN ⟨a1, b1, c1, d1, s1, f1, g1, h1⟩ q 1 = t2 := ⟨_, rfl⟩
  simp only [ht2] at hmix hsum
  clear ht2
  obtain ⟨a2, b2, c2, d2, s2, f2, g2, h2⟩ := t2
  have HEN := Lib.hid hend
  have hmix' : ∀ w5, EndAt w4.drew w5 q → Calls Tryd.prog 18 #[.agg #[.int .u32 a1, .int .u32 b1, .int .u32 c1, .int .u32 d1, .int .u32 s1, .int .u32 f1, .int .u32 g1, .int .u32 h1], .slice (some ⟨w4.heap.size, 0, none⟩) 64 64] w5
      fun e w' => e = .returned (.agg #[.int .u32 a2, .int .u32 b2, .int .u32 c2, .int .u32 d2, .int .u32 s2, .int .u32 f2, .int .u32 g2, .int .u32 h2]) ∧ Fr [] w5 w' := hmix
  have HMX := Lib.hid hmix'
  have HSU := Lib.hid hsum
  have HG0 := Lib.hid hg0
  have hFd : Fr [] w w4.drew := HF3.out.drew
  have HFD := Lib.hid hFd
  have hgd : w4.drew.heap[g]? = some (.cells (wv [a1, b1, c1, d1, s1, f1, g1, h1]) 36 (0, 0)) := hg4
  have HGD := Lib.hid hgd
  obtain ⟨⟨q0, q1, q2, q3, q4, q5, q6, q7⟩, _⟩ := cells8 hg4
  clear hg0 hend hT4 hg4 hmix hmix' hsum hq hql hFd hgd
  go_region_with (first
    | (go_at_call 19; (try rw [show IntKind.u64.wrap 0 = 0 from rfl]); (with_reducible refine HEN.out.mono ?_); rintro e w5 ⟨rfl, hE⟩; have hG5 := hE.fr.keep HGD.out (by simp); obtain ⟨⟨r0, r1, r2, r3, r4, r5, r6, r7⟩, _⟩ := cells8 hG5)
    | (go_at_call 18; (with_reducible refine (HMX.out _ hE).mono ?_); rintro e w6 ⟨rfl, hf6⟩; have hG6 := hf6.keep hG5 (by simp); have hF6 := (HFD.out.trans hE.fr).trans hf6; obtain ⟨⟨u0, u1, u2, u3, u4, u5, u6, u7⟩, ⟨v0, v1, v2, v3, v4, v5, v6, v7⟩⟩ := cells8 hG6))
  all_goals
    have hF7 : Fr [] w ((((((((w6.setCell ⟨g, 0, none⟩ (.int .u32 a2)).setCell ⟨g, 1, none⟩ (.int .u32 b2)).setCell ⟨g, 2, none⟩ (.int .u32 c2)).setCell ⟨g, 3, none⟩ (.int .u32 d2)).setCell ⟨g, 4, none⟩ (.int .u32 s2)).setCell ⟨g, 5, none⟩ (.int .u32 f2)).setCell ⟨g, 6, none⟩ (.int .u32 g2)).setCell ⟨g, 7, none⟩ (.int .u32 h2)) := ((((((((hF6.setCell (p := ⟨g, 0, none⟩) (.inr HG0.out) (.int .u32 a2)).setCell (p := ⟨g, 1, none⟩) (.inr HG0.out) (.int .u32 b2)).setCell (p := ⟨g, 2, none⟩) (.inr HG0.out) (.int .u32 c2)).setCell (p := ⟨g, 3, none⟩) (.inr HG0.out) (.int .u32 d2)).setCell (p := ⟨g, 4, none⟩) (.inr HG0.out) (.int .u32 s2)).setCell (p := ⟨g, 5, none⟩) (.inr HG0.out) (.int .u32 f2)).setCell (p := ⟨g, 6, none⟩) (.inr HG0.out) (.int .u32 g2)).setCell (p := ⟨g, 7, none⟩) (.inr HG0.out) (.int .u32 h2))
    have hG7 : (((((((((w6.setCell ⟨g, 0, none⟩ (.int .u32 a2)).setCell ⟨g, 1, none⟩ (.int .u32 b2)).setCell ⟨g, 2, none⟩ (.int .u32 c2)).setCell ⟨g, 3, none⟩ (.int .u32 d2)).setCell ⟨g, 4, none⟩ (.int .u32 s2)).setCell ⟨g, 5, none⟩ (.int .u32 f2)).setCell ⟨g, 6, none⟩ (.int .u32 g2)).setCell ⟨g, 7, none⟩ (.int .u32 h2))).heap[g]? = some (.cells (wv [a2, b2, c2, d2, s2, f2, g2, h2]) 36 (0, 0)) := set8 hG6 a2 b2 c2 d2 s2 f2 g2 h2
    generalize ((((((((w6.setCell ⟨g, 0, none⟩ (.int .u32 a2)).setCell ⟨g, 1, none⟩ (.int .u32 b2)).setCell ⟨g, 2, none⟩ (.int .u32 c2)).setCell ⟨g, 3, none⟩ (.int .u32 d2)).setCell ⟨g, 4, none⟩ (.int .u32 s2)).setCell ⟨g, 5, none⟩ (.int .u32 f2)).setCell ⟨g, 6, none⟩ (.int .u32 g2)).setCell ⟨g, 7, none⟩ (.int .u32 h2)) = w7 at *
    have hby := stbytes_calls w7 ⟨a2, b2, c2, d2, s2, f2, g2, h2⟩
    rw [← HSU.out, show St.l ⟨a2, b2, c2, d2, s2, f2, g2, h2⟩ = [a2, b2, c2, d2, s2, f2, g2, h2] from rfl] at hby
    have h28 : [a2, b2, c2, d2, s2, f2, g2, h2].length = 8 := rfl
    generalize [a2, b2, c2, d2, s2, f2, g2, h2] = l2 at hG7 hby h28
    have HF7 := Lib.hid hF7; have HG7 := Lib.hid hG7; have HBY := Lib.hid hby; have H28 := Lib.hid h28
    clear hby h28 hF7 hG7 hF6 hG6 hG5 hE hf6 q0 q1 q2 q3 q4 q5 q6 q7 r0 r1 r2 r3 r4 r5 r6 r7 u0 u1 u2 u3 u4 u5 u6 u7 v0 v1 v2 v3 v4 v5 v6 v7
    go_wp2_with (first
      | ((with_reducible_and_instances refine id (α := wpList _ _ _ (⟨some 26, .load 36 (.tmp 3), _, _, _, _⟩ :: _) _ _) ?_); refine wpList_load_row rfl 36 (.tmp 3) rfl g rfl 36 (wv l2) (0, 0) _ HG7.out Tryd.underlying36 rfl (Tryd.info36 l2 H28.out) ?_)
      | fail)
    refine HBY.out.mono ?_
    rintro e w8 ⟨v, rfl, hown, hf8⟩
    go_wp2_with fail
    go_ret
    exact ⟨v, rfl, ownsRow_lower hown HF7.out.size, HF7.out.trans hf8⟩
set_option maxRecDepth 100000 in
set_option maxHeartbeats 2000000 in
theorem sha_calls (w : World) (ad : Option Addr) (cap : Nat) (m : List UInt8) (hm : Reads w ad cap m) (hT : TabAt w) (hsp : ∀ a, ad = some a → ∃ b off, a = ⟨b, off, none⟩) :
    Calls Tryd.prog 9 #[.slice ad m.length cap] w (NewB w (shaB m)) := by
  obtain ⟨hle, hbig, hlen, hnil, hat⟩ := hm
  obtain ⟨n, hn⟩ : ∃ n, m.length = n := ⟨_, rfl⟩
  obtain ⟨N, hN⟩ : ∃ N, n / 64 = N := ⟨_, rfl⟩
  have HM := Lib.hid hn
  have HND := Lib.hid hN
  rw [hn] at hle hlen ⊢
  have e1 : (n : Int) - (n : Int) % 64 = 64 * (N : Int) := by omega
  have e2 : (64 * (N : Int)).toNat = 64 * N := by omega
  have e3 : 64 * N ≤ n := by omega
  have e4 : (0 : Int) ≤ 64 * (N : Int) := by omega
  have e5 : 64 * (N : Int) ≤ cap := by omega
  have e6 : 64 * (N : Int) ≤ n := by omega
  have HAT := Lib.hid hat; clear hat
  have HT := Lib.hid hT; clear hT
  clear hn hN
  cases ad with
  | none =>
    obtain rfl : cap = 0 := hnil rfl
    obtain rfl : n = 0 := by omega
    obtain rfl : m = [] := List.eq_nil_of_length_eq_zero HM.out
    exact sha_nil w HT.out
  | some a =>
    have hb0 : ∃ b off, a = ⟨b, off, none⟩ ∧ BytesAt w b off m := by
      obtain ⟨b, off, rfl⟩ := hsp a rfl
      by_cases h0 : 0 < m.length
      · obtain ⟨b', off', e', h'⟩ := HAT.out _ rfl h0
        cases e'
        exact ⟨_, _, rfl, h'⟩
      · obtain rfl : m = [] := List.eq_nil_of_length_eq_zero (by omega)
        exact ⟨_, _, rfl, BytesAt.nil _ _ _⟩
    obtain ⟨b, off, rfl, hb⟩ := hb0
    clear hsp
    have HBB := Lib.hid hb
    go_enter Tryd.func9, Tryd.ntmps9
    go_wp2_with fail
    refine (firstState_calls w).mono ?_
    rintro e w1 ⟨rfl, hf1⟩
    have h8 : st0.l.length = 8 := rfl
    obtain ⟨l0, hl0⟩ : ∃ l0, st0.l = l0 := ⟨_, rfl⟩
    rw [hl0] at h8 ⊢
    have H8 := Lib.hid h8; have HL0 := Lib.hid hl0; clear h8 hl0
    go_wp2_with (first
      | ((with_reducible_and_instances refine id (α := wpList _ _ _ (⟨some 3, .alloc 36, _, _, _, _⟩ :: _) _ _) ?_); refine wL_allocW rfl 36 rfl _ Tryd.zero36 ?_)
      | ((with_reducible_and_instances refine id (α := wpList _ _ _ (⟨none, .store 36 (.tmp 3) (.tmp 5), _, _, _, _⟩ :: _) _ _) ?_); refine wL_storeNew rfl 36 (.tmp 3) (.tmp 5) rfl w1 w1.heap.size rfl rfl (wv l0) rfl (wv (pad0 8 [])) (Tryd.info36 l0 H8.out) (pad_size 8 l0 H8.out) (wv_one _) ?_)
      | fail)
    have hf2 : Fr [] w (w1.alloc (.cells (wv l0) 36)) := hf1.alloc _
    have hcur : (w1.alloc (.cells (wv l0) 36)).heap[w1.heap.size]? = some (.cells (wv l0) 36 (0, 0)) := heap_alloc_last _ _
    have hb2 : BytesAt (w1.alloc (.cells (wv l0) 36)) b off m := HBB.out.stay hf2
    have hT2 := HT.out.keep hf2 (by simp)
    have hg0 : w.heap.size ≤ w1.heap.size := hf1.size
    generalize w1.alloc (.cells (wv l0) 36) = w2 at *
    generalize w1.heap.size = g at *
    have hcd : w2.drew.heap[g]? = some (.cells (wv l0) 36 (0, 0)) := hcur
    have hrg : w2.drew.rangeAt g 0 (l0.map (Value.int .u32)) := fun j v hv => by
      rw [box_cell hcd]; simpa [wv] using hv
    have hmx := mixAll_calls w2.drew st0 (some ⟨b, off, none⟩) N cap (m.take (64 * N)) (fun _ => ⟨b, off, rfl, by have := BytesAt.sub (w := w2.drew) hb2 0 (64 * N); simpa using this⟩) (by rw [List.length_take, HM.out]; omega) (by omega) hT2
    rw [HL0.out] at hmx
    have hfd : Fr [] w w2.drew := hf2.drew
    have HC := Lib.hid hcd; have HRG := Lib.hid hrg; have HMX := Lib.hid hmx; have HFD := Lib.hid hfd; have HB2 := Lib.hid hb2; have HT2 := Lib.hid hT2
    clear hcd hrg hmx hfd hcur hb hT2 hf2 hf1 hb2
    refine wp_region_still_tail 4 (by kernel_rfl) (by kernel_rfl) ?_
    change wpStill _ _ w2.drew _ _ _
    simp only [List.take_succ_cons, List.take_zero, List.drop_succ_cons, List.drop_zero]
    refine wpStill_loadMid rfl 36 (.tmp 3) rfl g 0 rfl (l0.map (Value.int .u32)) HRG.out 8 34 Tryd.underlying36 (Tryd.info36 l0 H8.out) ?_
    iterate 3 still_step
    refine wpStill_nil ?_
    change wpList _ _ _ _ _ w2.drew
    go_wp2_with fail
    refine HMX.out.mono ?_
    rintro e w3 ⟨rfl, hf3⟩
    clear HMX
    obtain ⟨t1, ht1⟩ : ∃ t1, mixN st0 (m.take (64 * N)) N = t1 := ⟨_, rfl⟩
    rw [ht1]
    have h81 : t1.l.length = 8 := rfl
    obtain ⟨l1, hl1⟩ : ∃ l1, t1.l = l1 := ⟨_, rfl⟩
    rw [hl1] at h81 ⊢
    have hF3 : Fr [] w (w3.setRow g (wv l1)) := (HFD.out.trans hf3).setRow (.inr hg0)
    have hG3 : w3.heap[g]? = some (.cells (wv l0) 36 (0, 0)) := hf3.keep HC.out (by simp)
    have hG4 : (w3.setRow g (wv l1)).heap[g]? = some (.cells (wv l1) 36 (0, 0)) := setRow_heap _ _ _ _ _ _ hG3
    have hsz : (wv l0).size = (wv l1).size := by rw [wv_size, wv_size, H8.out, h81]
    have HF3 := Lib.hid hF3; have HG3 := Lib.hid hG3; have HG4 := Lib.hid hG4; have HSZ := Lib.hid hsz; have H81 := Lib.hid h81; have HL1 := Lib.hid hl1; have HT1 := Lib.hid ht1
    clear hF3 hG3 hG4 hsz h81 hl1 ht1 hf3 HC HRG HFD HB2 HT2
    go_wp2_with (first
      | ((with_reducible_and_instances refine id (α := wpList _ _ _ (⟨none, .store 36 (.tmp 3) (.tmp 16), _, _, _, _⟩ :: _) _ _) ?_); refine wL_storeW rfl 36 (.tmp 3) (.tmp 16) rfl g rfl (wv l1) rfl 36 _ HG3.out (Tryd.info36 l1 H81.out) HSZ.out (wv_one _) ?_)
      | fail)
    generalize w3.setRow g (wv l1) = w4 at *
    have hb4 : BytesAt w4 b off m := HBB.out.stay HF3.out
    have hT4 := HT.out.keep HF3.out (by simp)
    obtain ⟨r, hr⟩ : ∃ r, m.drop (64 * N) = r := ⟨_, rfl⟩
    have hrl : r.length = n - 64 * N := by rw [← hr, List.length_drop, HM.out]
    have hbr : BytesAt w4.drew b (off + 64 * N) r := by
      have := BytesAt.sub (w := w4.drew) hb4 (64 * N) (n - 64 * N)
      rwa [hr, List.take_of_length_le (by omega)] at this
    obtain ⟨M, hM⟩ : ∃ M, (64 * M = 64 ∧ r.length < 56) ∨ (64 * M = 128 ∧ 56 ≤ r.length ∧ r.length < 64) := by
      by_cases h : r.length < 56
      · exact ⟨1, .inl ⟨rfl, h⟩⟩
      · exact ⟨2, .inr ⟨rfl, by omega, by omega⟩⟩
    have hw64 : IntKind.u64.wrap (n : Int) = n := by
      have : (n : Int) < 18446744073709551616 := by omega
      rw [IntKind.wrap_u64]; omega
    obtain ⟨q, hq⟩ : ∃ q, endL r (64 * M) n 8 = q := ⟨_, rfl⟩
    have hql : q.length = 64 * M := by rw [← hq, endL_length]
    have hend : ∀ ad' cap', (0 < r.length → ad' = some ⟨b, off + 64 * N, none⟩) → r.length ≤ cap' → cap' ≤ cap → Calls Tryd.prog 19 #[.slice ad' (n - 64 * N) cap', .int .u64 (IntKind.u64.wrap n)] w4.drew (fun e w' => e = .returned (.slice (some ⟨w4.heap.size, 0, none⟩) (64 * M) (64 * M)) ∧ EndAt w4.drew w' q) := fun ad' cap' h h1 h2 => by
      rw [← hrl, hw64, ← hq]
      exact ending_calls w4.drew ad' cap' r n (64 * M) (fun h0 => ⟨b, off + 64 * N, h h0, hbr⟩) (by omega) hM (by omega)
    obtain ⟨a1, b1, c1, d1, s1, f1, g1, h1⟩ := t1
    have hmix : ∀ w5, EndAt w4.drew w5 q → Calls Tryd.prog 18 #[.agg #[.int .u32 a1, .int .u32 b1, .int .u32 c1, .int .u32 d1, .int .u32 s1, .int .u32 f1, .int .u32 g1, .int .u32 h1], .slice (some ⟨w4.heap.size, 0, none⟩) (64 * M) (64 * M)] w5
        fun e w' => e = .returned (.agg (wv (mixN ⟨a1, b1, c1, d1, s1, f1, g1, h1⟩ q M).l)) ∧ Fr [] w5 w' := fun w5 h =>
      mixAll_calls w5 ⟨a1, b1, c1, d1, s1, f1, g1, h1⟩ (some ⟨w4.heap.size, 0, none⟩) M (64 * M) q (fun _ => ⟨_, 0, rfl, fun j v hv => by have := box_cell (w := w5) (p := w4.heap.size) h.row j; rw [Nat.zero_add, this, List.getElem?_toArray]; exact hv⟩) hql (by omega) (TabAt.keep (w := w4.drew) hT4 h.fr (by simp))
    have hg4 := HG4.out
    rw [← HL1.out] at hg4
    have hsum : shaB m = outB (mixN ⟨a1, b1, c1, d1, s1, f1, g1, h1⟩ q M).l := by
      rw [← HT1.out, ← hq, ← hr, ← HM.out]
      exact sha_split m N M (by rw [HM.out]; exact HND.out) (by rw [hr]; exact hM)
    obtain ⟨t2, ht2⟩ : ∃ t2, mixN ⟨a1, b1, c1, d1, s1, f1, g1, h1⟩ q M = t2 := ⟨_, rfl⟩
    simp only [ht2] at hmix hsum
    clear ht2
    obtain ⟨a2, b2, c2, d2, s2, f2, g2, h2⟩ := t2
    have HEN := Lib.hid hend
    have hmix' : ∀ w5, EndAt w4.drew w5 q → Calls Tryd.prog 18 #[.agg #[.int .u32 a1, .int .u32 b1, .int .u32 c1, .int .u32 d1, .int .u32 s1, .int .u32 f1, .int .u32 g1, .int .u32 h1], .slice (some ⟨w4.heap.size, 0, none⟩) (64 * M) (64 * M)] w5
        fun e w' => e = .returned (.agg #[.int .u32 a2, .int .u32 b2, .int .u32 c2, .int .u32 d2, .int .u32 s2, .int .u32 f2, .int .u32 g2, .int .u32 h2]) ∧ Fr [] w5 w' := hmix
    have HMX := Lib.hid hmix'
    have HMM := Lib.hid hM
    have HRL := Lib.hid hrl
    have HSU := Lib.hid hsum
    have HG0 := Lib.hid hg0
    have hFd : Fr [] w w4.drew := HF3.out.drew
    have HFD := Lib.hid hFd
    have hgd : w4.drew.heap[g]? = some (.cells (wv [a1, b1, c1, d1, s1, f1, g1, h1]) 36 (0, 0)) := hg4
    have HGD := Lib.hid hgd
    obtain ⟨⟨q0, q1, q2, q3, q4, q5, q6, q7⟩, _⟩ := cells8 hg4
    clear hg0 hbr hend hM hr hrl hb4 hT4 hg4 hmix hmix' hsum hq hql hw64 hFd hgd
    by_cases hcw : cap = 64 * N
    · go_region_with (first
        | (go_at_call 19; (with_reducible refine (HEN.out _ _ (fun h0 => by have := HRL.out; omega) (by have := HRL.out; omega) (by omega)).mono ?_); rintro e w5 ⟨rfl, hE⟩; have hG5 := hE.fr.keep HGD.out (by simp); obtain ⟨⟨r0, r1, r2, r3, r4, r5, r6, r7⟩, _⟩ := cells8 hG5)
        | (go_at_call 18; (with_reducible refine (HMX.out _ hE).mono ?_); rintro e w6 ⟨rfl, hf6⟩; have hG6 := hf6.keep hG5 (by simp); have hF6 := (HFD.out.trans hE.fr).trans hf6; obtain ⟨⟨u0, u1, u2, u3, u4, u5, u6, u7⟩, ⟨v0, v1, v2, v3, v4, v5, v6, v7⟩⟩ := cells8 hG6))
      all_goals
        have hF7 : Fr [] w ((((((((w6.setCell ⟨g, 0, none⟩ (.int .u32 a2)).setCell ⟨g, 1, none⟩ (.int .u32 b2)).setCell ⟨g, 2, none⟩ (.int .u32 c2)).setCell ⟨g, 3, none⟩ (.int .u32 d2)).setCell ⟨g, 4, none⟩ (.int .u32 s2)).setCell ⟨g, 5, none⟩ (.int .u32 f2)).setCell ⟨g, 6, none⟩ (.int .u32 g2)).setCell ⟨g, 7, none⟩ (.int .u32 h2)) := ((((((((hF6.setCell (p := ⟨g, 0, none⟩) (.inr HG0.out) (.int .u32 a2)).setCell (p := ⟨g, 1, none⟩) (.inr HG0.out) (.int .u32 b2)).setCell (p := ⟨g, 2, none⟩) (.inr HG0.out) (.int .u32 c2)).setCell (p := ⟨g, 3, none⟩) (.inr HG0.out) (.int .u32 d2)).setCell (p := ⟨g, 4, none⟩) (.inr HG0.out) (.int .u32 s2)).setCell (p := ⟨g, 5, none⟩) (.inr HG0.out) (.int .u32 f2)).setCell (p := ⟨g, 6, none⟩) (.inr HG0.out) (.int .u32 g2)).setCell (p := ⟨g, 7, none⟩) (.inr HG0.out) (.int .u32 h2))
        have hG7 : (((((((((w6.setCell ⟨g, 0, none⟩ (.int .u32 a2)).setCell ⟨g, 1, none⟩ (.int .u32 b2)).setCell ⟨g, 2, none⟩ (.int .u32 c2)).setCell ⟨g, 3, none⟩ (.int .u32 d2)).setCell ⟨g, 4, none⟩ (.int .u32 s2)).setCell ⟨g, 5, none⟩ (.int .u32 f2)).setCell ⟨g, 6, none⟩ (.int .u32 g2)).setCell ⟨g, 7, none⟩ (.int .u32 h2))).heap[g]? = some (.cells (wv [a2, b2, c2, d2, s2, f2, g2, h2]) 36 (0, 0)) := set8 hG6 a2 b2 c2 d2 s2 f2 g2 h2
        generalize ((((((((w6.setCell ⟨g, 0, none⟩ (.int .u32 a2)).setCell ⟨g, 1, none⟩ (.int .u32 b2)).setCell ⟨g, 2, none⟩ (.int .u32 c2)).setCell ⟨g, 3, none⟩ (.int .u32 d2)).setCell ⟨g, 4, none⟩ (.int .u32 s2)).setCell ⟨g, 5, none⟩ (.int .u32 f2)).setCell ⟨g, 6, none⟩ (.int .u32 g2)).setCell ⟨g, 7, none⟩ (.int .u32 h2)) = w7 at *
        have hby := stbytes_calls w7 ⟨a2, b2, c2, d2, s2, f2, g2, h2⟩
        rw [← HSU.out, show St.l ⟨a2, b2, c2, d2, s2, f2, g2, h2⟩ = [a2, b2, c2, d2, s2, f2, g2, h2] from rfl] at hby
        have h28 : [a2, b2, c2, d2, s2, f2, g2, h2].length = 8 := rfl
        generalize [a2, b2, c2, d2, s2, f2, g2, h2] = l2 at hG7 hby h28
        have HF7 := Lib.hid hF7; have HG7 := Lib.hid hG7; have HBY := Lib.hid hby; have H28 := Lib.hid h28
        clear hby h28 hF7 hG7 hF6 hG6 hG5 hE hf6 q0 q1 q2 q3 q4 q5 q6 q7 r0 r1 r2 r3 r4 r5 r6 r7 u0 u1 u2 u3 u4 u5 u6 u7 v0 v1 v2 v3 v4 v5 v6 v7
        go_wp2_with (first
          | ((with_reducible_and_instances refine id (α := wpList _ _ _ (⟨some 26, .load 36 (.tmp 3), _, _, _, _⟩ :: _) _ _) ?_); refine wpList_load_row rfl 36 (.tmp 3) rfl g rfl 36 (wv l2) (0, 0) _ HG7.out Tryd.underlying36 rfl (Tryd.info36 l2 H28.out) ?_)
          | fail)
        refine HBY.out.mono ?_
        rintro e w8 ⟨v, rfl, hown, hf8⟩
        go_wp2_with fail
        go_ret
        exact ⟨v, rfl, ownsRow_lower hown HF7.out.size, HF7.out.trans hf8⟩
    · go_region_with (first
        | (go_at_call 19; (with_reducible refine (HEN.out _ _ (fun _ => rfl) (by have := HRL.out; omega) (by omega)).mono ?_); rintro e w5 ⟨rfl, hE⟩; have hG5 := hE.fr.keep HGD.out (by simp); obtain ⟨⟨r0, r1, r2, r3, r4, r5, r6, r7⟩, _⟩ := cells8 hG5)
        | (go_at_call 18; (with_reducible refine (HMX.out _ hE).mono ?_); rintro e w6 ⟨rfl, hf6⟩; have hG6 := hf6.keep hG5 (by simp); have hF6 := (HFD.out.trans hE.fr).trans hf6; obtain ⟨⟨u0, u1, u2, u3, u4, u5, u6, u7⟩, ⟨v0, v1, v2, v3, v4, v5, v6, v7⟩⟩ := cells8 hG6))
      all_goals
        have hF7 : Fr [] w ((((((((w6.setCell ⟨g, 0, none⟩ (.int .u32 a2)).setCell ⟨g, 1, none⟩ (.int .u32 b2)).setCell ⟨g, 2, none⟩ (.int .u32 c2)).setCell ⟨g, 3, none⟩ (.int .u32 d2)).setCell ⟨g, 4, none⟩ (.int .u32 s2)).setCell ⟨g, 5, none⟩ (.int .u32 f2)).setCell ⟨g, 6, none⟩ (.int .u32 g2)).setCell ⟨g, 7, none⟩ (.int .u32 h2)) := ((((((((hF6.setCell (p := ⟨g, 0, none⟩) (.inr HG0.out) (.int .u32 a2)).setCell (p := ⟨g, 1, none⟩) (.inr HG0.out) (.int .u32 b2)).setCell (p := ⟨g, 2, none⟩) (.inr HG0.out) (.int .u32 c2)).setCell (p := ⟨g, 3, none⟩) (.inr HG0.out) (.int .u32 d2)).setCell (p := ⟨g, 4, none⟩) (.inr HG0.out) (.int .u32 s2)).setCell (p := ⟨g, 5, none⟩) (.inr HG0.out) (.int .u32 f2)).setCell (p := ⟨g, 6, none⟩) (.inr HG0.out) (.int .u32 g2)).setCell (p := ⟨g, 7, none⟩) (.inr HG0.out) (.int .u32 h2))
        have hG7 : (((((((((w6.setCell ⟨g, 0, none⟩ (.int .u32 a2)).setCell ⟨g, 1, none⟩ (.int .u32 b2)).setCell ⟨g, 2, none⟩ (.int .u32 c2)).setCell ⟨g, 3, none⟩ (.int .u32 d2)).setCell ⟨g, 4, none⟩ (.int .u32 s2)).setCell ⟨g, 5, none⟩ (.int .u32 f2)).setCell ⟨g, 6, none⟩ (.int .u32 g2)).setCell ⟨g, 7, none⟩ (.int .u32 h2))).heap[g]? = some (.cells (wv [a2, b2, c2, d2, s2, f2, g2, h2]) 36 (0, 0)) := set8 hG6 a2 b2 c2 d2 s2 f2 g2 h2
        generalize ((((((((w6.setCell ⟨g, 0, none⟩ (.int .u32 a2)).setCell ⟨g, 1, none⟩ (.int .u32 b2)).setCell ⟨g, 2, none⟩ (.int .u32 c2)).setCell ⟨g, 3, none⟩ (.int .u32 d2)).setCell ⟨g, 4, none⟩ (.int .u32 s2)).setCell ⟨g, 5, none⟩ (.int .u32 f2)).setCell ⟨g, 6, none⟩ (.int .u32 g2)).setCell ⟨g, 7, none⟩ (.int .u32 h2)) = w7 at *
        have hby := stbytes_calls w7 ⟨a2, b2, c2, d2, s2, f2, g2, h2⟩
        rw [← HSU.out, show St.l ⟨a2, b2, c2, d2, s2, f2, g2, h2⟩ = [a2, b2, c2, d2, s2, f2, g2, h2] from rfl] at hby
        have h28 : [a2, b2, c2, d2, s2, f2, g2, h2].length = 8 := rfl
        generalize [a2, b2, c2, d2, s2, f2, g2, h2] = l2 at hG7 hby h28
        have HF7 := Lib.hid hF7; have HG7 := Lib.hid hG7; have HBY := Lib.hid hby; have H28 := Lib.hid h28
        clear hby h28 hF7 hG7 hF6 hG6 hG5 hE hf6 q0 q1 q2 q3 q4 q5 q6 q7 r0 r1 r2 r3 r4 r5 r6 r7 u0 u1 u2 u3 u4 u5 u6 u7 v0 v1 v2 v3 v4 v5 v6 v7
        go_wp2_with (first
          | ((with_reducible_and_instances refine id (α := wpList _ _ _ (⟨some 26, .load 36 (.tmp 3), _, _, _, _⟩ :: _) _ _) ?_); refine wpList_load_row rfl 36 (.tmp 3) rfl g rfl 36 (wv l2) (0, 0) _ HG7.out Tryd.underlying36 rfl (Tryd.info36 l2 H28.out) ?_)
          | fail)
        refine HBY.out.mono ?_
        rintro e w8 ⟨v, rfl, hown, hf8⟩
        go_wp2_with fail
        go_ret
        exact ⟨v, rfl, ownsRow_lower hown HF7.out.size, HF7.out.trans hf8⟩
end Go.Proofs.YthegllpmefilkaaDoor
