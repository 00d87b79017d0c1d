/-
  Copy: another device that is the same.
-/
import Derived.Test.YthjoakgcmelhmaaDevNew
import Derived.Test.YthjoakgcmelhmaaShelfP
namespace Go.Proofs.Ythjoakgcmelhmaa
open Go.RowKit Go.MapKept
theorem Secs.cells {w : World} {l n : Nat} {ls : Nat → List UInt8} (h : Secs w l n ls) : ∃ lc, w.heap[l]? = some (.cells lc 65 (0, 0)) ∧ n * 64 ≤ lc.size ∧ (∀ v ∈ lc.toList.take (n * 64), v.oneCell' = true) ∧
    ∀ (w' : World) (g : Nat) (cur : Array Value), w'.heap[g]? = some (.cells cur 65 (0, 0)) → cur.toList.take (n * 64) = lc.toList.take (n * 64) → Secs w' g n ls := by
  obtain ⟨lc, h1, h2, h3⟩ := h
  have hget : ∀ k, k < n * 64 → lc[k]? = (cel (ls (k / 64)))[k % 64]? := by
    intro k hk
    have hi : k / 64 < n := by omega
    have := (h3 (k / 64) hi).2 (k % 64) (by omega)
    rwa [show k / 64 * 64 + k % 64 = k by omega] at this
  refine ⟨lc, h1, h2, ?_, ?_⟩
  · intro v hv
    obtain ⟨k, hk⟩ := List.mem_iff_getElem?.1 hv
    rw [List.getElem?_take] at hk
    split at hk
    · rename_i hlt
      rw [Array.getElem?_toList, hget k hlt] at hk
      exact cel_one _ v (List.mem_of_getElem? hk)
    · cases hk
  · intro w' g cur hg htake
    have hcur : ∀ k, k < n * 64 → cur[k]? = lc[k]? := by
      intro k hk
      have e1 : (cur.toList.take (n * 64))[k]? = cur[k]? := by rw [List.getElem?_take, if_pos hk, Array.getElem?_toList]
      have e2 : (lc.toList.take (n * 64))[k]? = lc[k]? := by rw [List.getElem?_take, if_pos hk, Array.getElem?_toList]
      rw [← e1, htake, e2]
    have hsz : n * 64 ≤ cur.size := by
      have e1 : (cur.toList.take (n * 64)).length = n * 64 := by rw [htake, List.length_take, Array.length_toList]; omega
      rw [List.length_take, Array.length_toList] at e1
      omega
    exact ⟨cur, hg, hsz, fun i hi => ⟨(h3 i hi).1, fun j hj => by rw [hcur _ (by omega)]; exact (h3 i hi).2 j hj⟩⟩
theorem run_build0s (w : World) : (Instr.buildSlice 59 0 #[]).run Try.prog w = .ok (.slice (some ⟨w.heap.size, 0, none⟩) 0 0) (w.alloc (.cells #[] 65)) := by kernel_rfl
/-- A copy of the sectors. -/
def CloneS (w : World) (n : Nat) (ls : Nat → List UInt8) (e : Ending) (w' : World) : Prop := ∃ g q, e = .returned (.slice (some ⟨g, 0, none⟩) n q) ∧ Fr [] w w' ∧ w.heap.size ≤ g ∧ Secs w' g n ls
set_option maxRecDepth 100000 in
set_option maxHeartbeats 400000 in
theorem cloneS_calls (l n q : Nat) (ls : Nat → List UInt8) (w : World) (h : Secs w l n ls) (hn : n ≤ 8192) :
    Calls Try.prog 31 #[.slice (some ⟨l, 0, none⟩) n q] w (CloneS w n ls) := by
  obtain ⟨lc, h1, h2, h3, h4⟩ := h.cells
  have hl := lt_of_heap h1
  have H1 := Lib.hid h1; have H3 := Lib.hid h3; have H4 := Lib.hid h4; clear h1 h3 h4 h
  have hn1 := fun w : World => Lib.run_eql_slice_nil (P := Try.prog) w 59 65 (some ⟨l, 0, none⟩) n q 0 0 Try.underlying59
  obtain ⟨i0, hi, hz0, hz1, hz2⟩ := info_parts Try.info65
  have hbs := run_build0s
  go_enter Try.func31, Try.ntmps31
  go_wp2_with (first | (at_builtin; refine wpList_append_own _ rfl _ _ 59 rfl (w.heap.size) 65 i0 (.agg zcells) 64 64 Try.underlying59 hi hz0 hz1 hz2 zcells_size (by decide) _ 0 [] rfl (ownsRow_empty w 65 64 w.heap.size (Nat.le_refl _)) ⟨l, 0, none⟩ n q (lc.toList.take (n * 64)) rfl ?c1 ?c2 ?c3 ?c4 ?c5 ?c6 ?_) | fail)
  case c1 => simp; omega
  case c2 =>
    intro j u hu
    rw [Addr.add_mid, Nat.zero_add]
    rw [List.getElem?_take] at hu
    split at hu
    · rw [box_cell (show (w.alloc (.cells #[] 65)).heap[l]? = _ by rw [heap_alloc_old _ _ _ hl]; exact H1.out)]
      simpa using hu
    · cases hu
  case c3 => exact H3.out
  case c4 => unfold maxLen; omega
  case c5 => omega
  case c6 => simp
  intro v' w1 hown hg hnil
  rcases hown.2 with ⟨hv, _⟩ | ⟨g, cap, cur, hv, hbg, hgc, r1, r2, r3, r4⟩
  · exact (hnil hv).elim
  · obtain rfl : v' = .slice (some ⟨g, 0, none⟩) n cap := by simpa using hv
    have hsec : Secs w1 g n ls := H4.out w1 g cur hgc (by simpa using r4)
    have HSEC := Lib.hid hsec; have HG := Lib.hid hg; clear hsec hg hown hnil hgc r1 r2 r3 r4
    go_wp2_with fail
    go_ret
    exact ⟨g, cap, rfl, (((Fr.refl [] w).alloc _).grown HG.out (fun k hk => by simp [Value.ownBlock] at hk; subst hk; exact .inr (Nat.le_refl _))), hbg, HSEC.out⟩
/-- A copy. -/
def CopyOK (w : World) (n : Nat) (c f : Int) (d : Bool) (ls : Nat → List UInt8) (wt : Int → Option (List UInt8)) (e : Ending) (w' : World) : Prop :=
  ∃ p l m q, e = .returned (.pointer (some ⟨p, 0, none⟩)) ∧ Fr [] w w' ∧ w.heap.size ≤ p ∧ w.heap.size ≤ l ∧ w.heap.size ≤ m ∧ DevAt w' p l m n q c f d ls wt
set_option maxRecDepth 100000 in
set_option maxHeartbeats 1000000 in
theorem copy_calls (w : World) (p l m n q : Nat) (c f : Int) (d : Bool) (ls : Nat → List UInt8) (wt : Int → Option (List UInt8)) (h : DevAt w p l m n q c f d ls wt) :
    Calls Try.prog 16 #[.pointer (some ⟨p, 0, none⟩)] w (CopyOK w n c f d ls wt) := by
  have hc := box_cell h.box
  have hp := lt_of_heap h.box
  have hnb := h.nb
  have hd1 := h.keep ((Fr.refl [] w).alloc (.cells #[.slice (some ⟨l, 0, none⟩) n q, .map (some m), .int .i64 c, .int .i64 f, .bool d] 62)) (by simp) (by simp) (by simp)
  go_enter Try.func16, Try.ntmps16
  go_wp2_with fail
  refine (cloneS_calls l n q ls _ hd1.las hnb).mono ?_
  rintro e w2 ⟨g, q', rfl, hf2, hg2, hs2⟩
  have hF1 : Fr [] w w2 := ((Fr.refl _ _).alloc _).trans hf2
  have hd2 := hd1.keep hf2 (by simp) (by simp) (by simp)
  have hbx2 := hf2.keep (heap_alloc_new w (.cells #[.slice (some ⟨l, 0, none⟩) n q, .map (some m), .int .i64 c, .int .i64 f, .bool d] 62)) (by simp)
  have hc2 := box_cell hbx2; have hf2' := box_free hbx2
  have hgs : w.heap.size < g := by simp at hg2; omega
  have hp2 := lt_of_heap hbx2
  clear hc hd1 hf2 hg2
  obtain ⟨w3, hw3⟩ : ∃ w3, w2.setCell ⟨w.heap.size, 0, none⟩ (.slice (some ⟨g, 0, none⟩) n q') = w3 := ⟨_, rfl⟩
  have hF3 : Fr [w.heap.size] w2 w3 := by rw [← hw3]; exact (Fr.refl _ _).setCell (.inl (by simp)) _
  have hpl : p < w.heap.size ∧ l < w.heap.size ∧ m < w.heap.size := ⟨hp, by obtain ⟨lc, h1, _⟩ := h.las; exact lt_of_heap h1, h.wai.lt⟩
  have hd3 := hd2.keep hF3 (by simp; omega) (by simp; omega) (by simp; omega)
  have hbx3 : w3.heap[w.heap.size]? = some (.cells #[.slice (some ⟨g, 0, none⟩) n q', .map (some m), .int .i64 c, .int .i64 f, .bool d] 62 (0, 0)) := by rw [← hw3]; exact box_set hbx2 0 _
  have hs3 : Secs w3 g n ls := by obtain ⟨lc, h1, _⟩ := id hs2; exact hs2.keep (hF3.block g (lt_of_heap h1) (by simp; omega))
  obtain ⟨es, clk, hb, hh⟩ := hd3.wai
  have hc3 := box_cell hd3.box
  have hd3c := box_cell hbx3; have hd3f := box_free hbx3
  have hcl := AnyW.maps_Clone Try.cloneM m es clk w3 hb
  have HCL := Lib.hid hcl; have HW3 := Lib.hid hw3; clear hcl hw3
  have HC2 := Lib.hid (box_cell hd2.box)
  have hc2p := HC2.out
  go_wp2_with fail
  rw [HW3.out]
  clear hc2 hf2' hc2p
  refine HCL.out.mono ?_
  rintro e w4 ⟨rfl, hw4⟩
  have hbx4 : w4.heap[w.heap.size]? = some (.cells #[.slice (some ⟨g, 0, none⟩) n q', .map (some m), .int .i64 c, .int .i64 f, .bool d] 62 (0, 0)) := by rw [hw4, heap_alloc_old _ _ _ (lt_of_heap hbx3)]; exact hbx3
  have hm4 : w4.heap[w3.heap.size]? = some (.map es clk) := by rw [hw4]; exact heap_alloc_new _ _
  have hF4 : Fr [] w3 w4 := by rw [hw4]; exact (Fr.refl _ _).alloc _
  have hs4 : Secs w4 g n ls := by obtain ⟨lc, h1, _⟩ := id hs3; exact hs3.keep (hF4.block g (lt_of_heap h1) (by simp))
  have hc4 := box_cell hbx4; have hf4 := box_free hbx4
  have HW4 := Lib.hid hw4; clear hw4 hc3 hd3c hd3f
  have hz3 : w.heap.size < w3.heap.size := lt_of_heap hbx3
  have hFa : Fr [] w (w4.setCell ⟨w.heap.size, 1, none⟩ (.map (some w3.heap.size))) := ((hF1.trans_new hF3 (by simp)).trans hF4).setCell (.inr (Nat.le_refl _)) _
  have hgl : g < w4.heap.size := by obtain ⟨lc, h1, _⟩ := id hs4; exact lt_of_heap h1
  have hfin : DevAt (w4.setCell ⟨w.heap.size, 1, none⟩ (.map (some w3.heap.size))) w.heap.size g w3.heap.size n q' c f d ls wt := by
    refine ⟨box_set hbx4 1 _, hs4.keep (heap_set_other (by show g ≠ w.heap.size; omega)), ⟨es, clk, by rw [heap_set_other (by show w3.heap.size ≠ w.heap.size; omega)]; exact hm4, hh⟩, h.dom, by omega, hnb⟩
  have HFIN := Lib.hid hfin
  clear hfin hs4 hF4 hm4 hb hh hs3 hbx3 hbx4 hd3 hF3 hd2 hbx2 hs2 hF1
  go_wp2_with fail
  go_ret
  exact ⟨_, _, _, _, rfl, hFa, Nat.le_refl _, by omega, by omega, HFIN.out⟩
end Go.Proofs.Ythjoakgcmelhmaa
