/-
  A state's bytes.
-/
import Derived.Test.YthegllpmefilkaaDoorShaEnd
namespace Go.Proofs.YthegllpmefilkaaDoor
open Go.RowKit Go.MapKept
theorem ownBlock_ge {w : World} {B : Nat} {T : TypeId} {s n : Nat} {v : Value} {xs : List Value} (h : w.ownsRow B T s v n xs) : ∀ k, v.ownBlock = some k → B ≤ k := by
  intro k hk
  rcases h.2 with ⟨h1, _⟩ | ⟨g, cap, cur, h1, h2, _⟩
  · subst h1; cases hk
  · subst h1; cases hk; exact h2
theorem ownsRow_lower {w : World} {B B' : Nat} {T : TypeId} {k n : Nat} {v : Value} {xs : List Value} (h : w.ownsRow B T k v n xs) (hB : B' ≤ B) : w.ownsRow B' T k v n xs := by
  refine ⟨h.1, ?_⟩
  rcases h.2 with h1 | ⟨g, cap, cur, h1, h2, h3⟩
  · exact .inl h1
  · exact .inr ⟨g, cap, cur, h1, Nat.le_trans hB h2, h3⟩
/-- The cells of a block that was made last. -/
theorem new_cells (w : World) (cs : List Value) (T : TypeId) : ∀ j u, cs[j]? = some u → (w.alloc (.cells cs.toArray T)).cell? ((⟨w.heap.size, 0, none⟩ : Addr).add j) = some u := by
  intro j u hj
  rw [Addr.add_mid, Nat.zero_add, box_cell (heap_alloc_last _ _)]
  simpa using hj
theorem outB_length : ∀ l, (outB l).length = 4 * l.length
  | [] => rfl
  | x :: l => by
    have h := outB_length l
    unfold outB at *
    simp only [List.map_cons, List.flatten_cons, List.length_append, List.length_cons, h]
    simp [wordB]; omega
theorem outB_snoc (l : List Int) (k : Nat) (hk : k < l.length) : outB (l.take (k + 1)) = outB (l.take k) ++ wordB (l.getD k 0) := by
  have e : l.getD k 0 = l[k] := by simp [hk]
  rw [List.take_succ_eq_append_getElem hk, e]
  unfold outB
  rw [List.map_append, List.flatten_append]
  simp only [List.map_cons, List.map_nil, List.flatten_cons, List.flatten_nil, List.append_nil]
theorem cel_append (a b : List UInt8) : cel (a ++ b) = cel a ++ cel b := by simp [cel]
theorem cel_wordB (x : Int) : cel (wordB x) = [.int .u8 (x / 16777216 % 256), .int .u8 (x / 65536 % 256), .int .u8 (x / 256 % 256), .int .u8 (x % 256)] := by
  simp [cel, wordB, byteI_toNat]
theorem Fr.grew {l : List Nat} {a w w' : World} {v : Value} {B : Nat} {T : TypeId} {s n : Nat} {xs : List Value} (h : Fr l a w) (ho : w.ownsRow B T s v n xs) (hg : w.grownBy w' v.ownBlock) (hB : a.heap.size ≤ B) : Fr l a w' :=
  h.grown hg fun k hk => .inr (Nat.le_trans hB (ownBlock_ge ho k hk))
/-- What comes back: new bytes. -/
def NewB (w : World) (s : List UInt8) (e : Ending) (w' : World) : Prop := ∃ v, e = .returned v ∧ w'.ownsRow w.heap.size 5 1 v s.length (cel s) ∧ Fr [] w w'
set_option maxRecDepth 100000 in
set_option maxHeartbeats 4000000 in
theorem stbytes_calls (w : World) (s : St) : Calls Tryd.prog 20 #[.agg (wv s.l)] w (NewB w (outB s.l)) := by
  obtain ⟨i0, hi, hz0, hz1, hz2⟩ := info_parts Tryd.info5
  have hb : Hid (i0.bytes * 32 ≤ 281474976710656) := Lib.hid (by rw [hz2]; decide)
  have HI := Lib.hid hi; have HZ0 := Lib.hid hz0; have HZ1 := Lib.hid hz1; have HZ2 := Lib.hid hz2; clear hi hz0 hz1 hz2
  have h8 : s.l.length = 8 := rfl
  have ho : (outB s.l).length = 32 := by rw [outB_length, h8]
  obtain ⟨l, hl⟩ : ∃ l, s.l = l := ⟨_, rfl⟩
  rw [hl] at h8 ho ⊢
  clear hl
  have H8 := Lib.hid h8; have HO := Lib.hid ho; clear h8 ho
  have HBX : Hid ((w.alloc (.cells (wv l) 36)).heap[w.heap.size]? = some (.cells (wv l) 36 (0, 0))) := Lib.hid (heap_alloc_last _ _)
  go_enter Tryd.func20, Tryd.ntmps20
  go_wp2_with (first
    | ((with_reducible_and_instances refine id (α := wpList _ _ _ (⟨some 1, .box 36 (.tmp 0), _, _, _, _⟩ :: _) _ _) ?_); refine wL_box rfl 36 (.tmp 0) rfl (wv l) rfl ?_)
    | (at_make; refine wpList_make_own _ rfl _ _ 23 rfl w.heap.size 5 i0 (.int .u8 0) 1 Tryd.underlying23 HI.out HZ0.out HZ1.out .i64 .i64 32 32 rfl rfl rfl hb.out (by unfold maxLen; decide) (by simp) ?_)
    | fail)
  intro w2 hown hgrow
  have hF2 : Fr [] w w2 := ((Fr.refl [] w).alloc _).grown hgrow (by simp)
  have HG : Hid (w2.heap[w.heap.size]? = some (.cells (wv l) 36 (0, 0))) := Lib.hid (by rw [hgrow.block _ (lt_of_heap HBX.out) (by simp)]; exact HBX.out)
  have HO2 := Lib.hid hown; have HF2 := Lib.hid hF2; clear hown hgrow hF2
  go_wp2_with (first
    | ((with_reducible_and_instances refine id (α := wpList _ _ _ (⟨some 7, .load 36 (.tmp 1), _, _, _, _⟩ :: _) _ _) ?_); refine wpList_load_row rfl 36 (.tmp 1) rfl w.heap.size rfl 36 (wv l) (0, 0) _ HG.out Tryd.underlying36 rfl (Tryd.info36 l H8.out) ?_)
    | fail)
  go_loopw [3, 8] (fun v3 v8 wr => ∃ k : Nat, k ≤ 8 ∧ v8 = .int .i64 k ∧ wr.ownsRow w.heap.size 5 1 v3 (4 * k) (cel (outB (l.take k))) ∧ Fr [] w wr) (fun _ v8 _ => 8 - (intOf v8).toNat)
  case atStart => exact ⟨0, by omega, rfl, HO2.out, HF2.out⟩
  case round =>
    clear HO2 HF2 HG
    obtain ⟨k, hk, rfl, hown, hfr⟩ := hrel
    by_cases hlt : k < 8
    · have hlk := wv_get l k (by rw [H8.out]; exact hlt)
      have hsn := outB_snoc l k (by rw [H8.out]; exact hlt)
      generalize l.getD k 0 = x at *
      have hnc := new_cells wr (cel (wordB x)) 5
      have hsz := hfr.size
      rw [cel_wordB] at hnc
      have HLK := Lib.hid hlk; have HSN := Lib.hid hsn; have HNC := Lib.hid hnc; have HOW := Lib.hid hown; have HFR := Lib.hid hfr
      clear hlk hsn hnc hown hfr
      have hk8 : (k : Int) < 8 := by omega
      go_wp2_with (first
        | ((with_reducible_and_instances refine id (α := wpList _ _ _ (⟨some 10, .index 36 (.tmp 7) (.tmp 8), _, _, _, _⟩ :: _) _ _) ?_); refine wL_index rfl 36 (.tmp 7) (.tmp 8) rfl 8 34 Tryd.underlying36 Tryd.sz34 Tryd.ag34 (wv l) rfl k rfl hlt _ HLK.out ?_)
        | (at_builtin; refine wpList_append_own _ rfl _ _ 23 rfl w.heap.size 5 i0 (.int .u8 0) 1 1 Tryd.underlying23 HI.out HZ0.out HZ1.out HZ2.out rfl (by decide) _ _ _ rfl (HOW.out.alloc _) ⟨wr.heap.size, 0, none⟩ 4 4 [.int .u8 (x / 16777216 % 256), .int .u8 (x / 65536 % 256), .int .u8 (x / 256 % 256), .int .u8 (x % 256)] rfl rfl HNC.out (fun u hu => by simp at hu; rcases hu with rfl | rfl | rfl | rfl <;> rfl) (by unfold maxLen; omega) (by omega) (by simp; omega) ?_)
        | fail)
      intro v' w1 hown' hgrow _
      have HFa := Lib.hid ((HFR.out.alloc _).grew (HOW.out.alloc _) hgrow (Nat.le_refl _))
      have ho' : w1.ownsRow w.heap.size 5 1 v' (4 * (k + 1)) (cel (outB (l.take (k + 1)))) := by
        rw [HSN.out, cel_append, cel_wordB]; exact hown'
      have HOa := Lib.hid ho'
      clear hgrow hown' ho'
      go_wp2_with fail
      go_roundw
      case rel => exact ⟨k + 1, by omega, by go_num, HOa.out, HFa.out⟩
      case measure => simp [intOf]; omega
    · obtain rfl : k = 8 := by omega
      go_wp2_with fail
      go_ret
      refine ⟨_, rfl, ?_, hfr⟩
      rw [List.take_of_length_le (by rw [H8.out]; exact Nat.le_refl _)] at hown
      rw [HO.out]; exact hown
end Go.Proofs.YthegllpmefilkaaDoor
