/-
  The document's own device: Copy.
-/
import Derived.Test.YthjoakgcmelhmaaRefWait
import Derived.Test.YthjoakgcmelhmaaRefNew
namespace Go.Proofs.Ythjoakgcmelhmaa
open Go.RowKit Go.MapKept
theorem RSecs.raw {w : World} {b n : Nat} {ls nw : Nat → List UInt8} {wt : Nat → Bool} (h : RSecs w b n ls nw wt) : ∃ lc, w.heap[b]? = some (.cells lc 75 (0, 0)) ∧ n * 3 ≤ lc.size ∧ (∀ v ∈ lc.toList.take (n * 3), v.oneCell' = true) ∧
    ∀ (w' : World) (g : Nat) (cur : Array Value), w'.heap[g]? = some (.cells cur 75 (0, 0)) → cur.toList.take (n * 3) = lc.toList.take (n * 3) → RSecs w' g n ls nw wt := by
  obtain ⟨lc, h1, h2, h3⟩ := h
  refine ⟨lc, h1, h2, ?_, ?_⟩
  · intro v hv
    obtain ⟨k, hk⟩ := List.mem_iff_getElem?.1 hv
    rw [List.getElem?_take] at hk
    split at hk
    · rename_i hlt
      rw [Array.getElem?_toList] at hk
      obtain ⟨g0, g1, g2⟩ := h3 (k / 3) (by omega)
      rcases (show k % 3 = 0 ∨ k % 3 = 1 ∨ k % 3 = 2 by omega) with e | e | e
      · rw [show k = k / 3 * 3 by omega, g0] at hk; cases hk; rfl
      · rw [show k = k / 3 * 3 + 1 by omega, g1] at hk; cases hk; rfl
      · rw [show k = k / 3 * 3 + 2 by omega, g2] at hk; cases hk; rfl
    · cases hk
  · intro w' g cur hg htake
    have hcur : ∀ k, k < n * 3 → cur[k]? = lc[k]? := by
      intro k hk
      have e1 : (cur.toList.take (n * 3))[k]? = cur[k]? := by rw [List.getElem?_take, if_pos hk, Array.getElem?_toList]
      have e2 : (lc.toList.take (n * 3))[k]? = lc[k]? := by rw [List.getElem?_take, if_pos hk, Array.getElem?_toList]
      rw [← e1, htake, e2]
    have hsz : n * 3 ≤ cur.size := by
      have e1 : (cur.toList.take (n * 3)).length = n * 3 := by rw [htake, List.length_take, Array.length_toList]; omega
      rw [List.length_take, Array.length_toList] at e1
      omega
    exact ⟨cur, hg, hsz, fun i hi => by rw [hcur _ (by omega), hcur _ (by omega), hcur _ (by omega)]; exact h3 i hi⟩
def RCopyOK (w : World) (n : Nat) (c f : Int) (d : Bool) (ls nw : Nat → List UInt8) (wt : Nat → Bool) (e : Ending) (w' : World) : Prop :=
  ∃ r b q, e = .returned (.pointer (some ⟨r, 0, none⟩)) ∧ Fr [] w w' ∧ w.heap.size ≤ r ∧ w.heap.size ≤ b ∧ RefAt w' r b n q c f d ls nw wt
theorem run_build0r (w : World) : (Instr.buildSlice 50 0 #[]).run Try.prog w = .ok (.slice (some ⟨w.heap.size, 0, none⟩) 0 0) (w.alloc (.cells #[] 75)) := by kernel_rfl
set_option maxRecDepth 100000 in
set_option maxHeartbeats 1000000 in
theorem rcopy_calls (w : World) (r b n q : Nat) (c f : Int) (d : Bool) (ls nw : Nat → List UInt8) (wt : Nat → Bool) (h : RefAt w r b n q c f d ls nw wt) :
    Calls Try.prog 23 #[.pointer (some ⟨r, 0, none⟩)] w (RCopyOK w n c f d ls nw wt) := by
  have hc := box_cell h.box
  have hlt := h.lt
  have hnb := h.nb
  obtain ⟨i0, hi, hz0, hz1, hz2⟩ := info_parts Try.info75
  have HI := Lib.hid hi; have HZ0 := Lib.hid hz0; have HZ1 := Lib.hid hz1; have HZ2 := Lib.hid hz2; clear hi hz0 hz1 hz2
  have hbs := run_build0r
  obtain ⟨lc, h1, h2, h3, h4⟩ := h.sec.raw
  have H1 := Lib.hid h1; have H3 := Lib.hid h3; have H4 := Lib.hid h4; have HD := Lib.hid h; clear h1 h3 h4 h
  have hown0 : ((w.alloc (.cells #[.slice (some ⟨b, 0, none⟩) n q, .int .i64 c, .int .i64 f, .bool d] 52)).alloc (.cells #[] 75)).ownsRow (w.heap.size + 1) 75 3 (.slice (some ⟨w.heap.size + 1, 0, none⟩) 0 0) 0 [] := by
    have := ownsRow_empty (w.alloc (.cells #[.slice (some ⟨b, 0, none⟩) n q, .int .i64 c, .int .i64 f, .bool d] 52)) 75 3 (w.heap.size + 1) (by simp)
    simpa using this
  have HOW := Lib.hid hown0; clear hown0
  go_enter Try.func23, Try.ntmps23
  go_wp2_with (first | (at_builtin; refine wpList_append_own _ rfl _ _ 50 rfl (w.heap.size + 1) 75 i0 (.agg #[.string ⟨#[]⟩, .string ⟨#[]⟩, .bool false]) 3 40 Try.underlying50 HI.out HZ0.out HZ1.out HZ2.out rfl (by decide) _ 0 [] rfl HOW.out ⟨b, 0, none⟩ n q (lc.toList.take (n * 3)) rfl ?c1 ?c2 ?c3 ?c4 ?c5 ?c6 ?_) | fail)
  case c1 => simp; omega
  case c2 =>
    intro j u hu
    rw [Addr.add_mid, Nat.zero_add]
    rw [List.getElem?_take] at hu
    split at hu
    · rw [box_cell (show ((w.alloc (.cells #[.slice (some ⟨b, 0, none⟩) n q, .int .i64 c, .int .i64 f, .bool d] 52)).alloc (.cells #[] 75)).heap[b]? = _ by rw [heap_alloc_old _ _ _ (by simp; omega), heap_alloc_old _ _ _ hlt.2]; exact H1.out)]
      simpa using hu
    · cases hu
  case c3 => exact H3.out
  case c4 => unfold maxLen; omega
  case c5 => omega
  case c6 => simp
  intro v' w1 hown hg hnil
  rcases hown.2 with ⟨hv, _⟩ | ⟨g, cap, cur, hv, hbg, hgc, r1, r2, r3, r4⟩
  · exact (hnil hv).elim
  · obtain rfl : v' = .slice (some ⟨g, 0, none⟩) n cap := by simpa using hv
    have hsec : RSecs w1 g n ls nw wt := H4.out w1 g cur hgc (by simpa using r4)
    have hf1 : Fr [w.heap.size + 1] (w.alloc (.cells #[.slice (some ⟨b, 0, none⟩) n q, .int .i64 c, .int .i64 f, .bool d] 52)) w1 :=
      ((Fr.refl _ _).alloc _).grown hg (fun k hk => by simp [Value.ownBlock] at hk; subst hk; exact .inl (by simp))
    have hF1 : Fr [] w w1 := ((Fr.refl [] w).alloc _).trans_new hf1 (by simp)
    have hbx1 := hf1.keep (heap_alloc_new w (.cells #[.slice (some ⟨b, 0, none⟩) n q, .int .i64 c, .int .i64 f, .bool d] 52)) (by simp)
    have hc1 := box_cell hbx1; have hf1' := box_free hbx1
    have hbx2 := box_set hbx1 0 (.slice (some ⟨g, 0, none⟩) n cap)
    have hF2 : Fr [] w (w1.setCell ⟨w.heap.size, 0, none⟩ (.slice (some ⟨g, 0, none⟩) n cap)) := hF1.setCell (.inr (Nat.le_refl _)) _
    have hsec2 : RSecs (w1.setCell ⟨w.heap.size, 0, none⟩ (.slice (some ⟨g, 0, none⟩) n cap)) g n ls nw wt := hsec.keep (heap_set_other (by simp; omega))
    have HR := Lib.hid (RefAt.mk (c := c) (f := f) (d := d) hbx2 hsec2 (by omega) hnb); have HF2 := Lib.hid hF2
    clear hsec hf1 hF1 hbx1 hbx2 hF2 hsec2 hown hg hnil hgc r1 r2 r3 r4
    go_wp2_with fail
    go_ret
    exact ⟨w.heap.size, g, cap, rfl, HF2.out, Nat.le_refl _, by omega, HR.out⟩
end Go.Proofs.Ythjoakgcmelhmaa
