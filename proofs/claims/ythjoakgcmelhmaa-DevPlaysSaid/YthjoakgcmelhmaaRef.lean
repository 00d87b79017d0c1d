/-
  The document's own device: what it is in memory; New, burn, Read, Write.
-/
import Derived.Test.YthjoakgcmelhmaaDevAwake
namespace Go.Proofs.Ythjoakgcmelhmaa
open Go.RowKit Go.MapKept
/-- Block b has n sectors of the document's: what lasts, what was last written, whether that waits. -/
def RSecs (w : World) (b n : Nat) (ls nw : Nat → List UInt8) (wt : Nat → Bool) : Prop :=
  ∃ a, w.heap[b]? = some (.cells a 75 (0, 0)) ∧ n * 3 ≤ a.size ∧ ∀ i, i < n → a[i * 3]? = some (.string ⟨(ls i).toArray⟩) ∧ a[i * 3 + 1]? = some (.string ⟨(nw i).toArray⟩) ∧ a[i * 3 + 2]? = some (.bool (wt i))
theorem RSecs.keep {w w' : World} {b n : Nat} {ls nw : Nat → List UInt8} {wt : Nat → Bool} (h : RSecs w b n ls nw wt) (hb : w'.heap[b]? = w.heap[b]?) : RSecs w' b n ls nw wt := by
  obtain ⟨a, h1, h2⟩ := h
  exact ⟨a, by rw [hb, h1], h2⟩
theorem RSecs.lt {w : World} {b n : Nat} {ls nw : Nat → List UInt8} {wt : Nat → Bool} (h : RSecs w b n ls nw wt) : b < w.heap.size := by obtain ⟨_, h, _⟩ := h; exact lt_of_heap h
theorem RSecs.cells {w : World} {b n : Nat} {ls nw : Nat → List UInt8} {wt : Nat → Bool} (h : RSecs w b n ls nw wt) {i : Nat} (hi : i < n) :
    w.cell? ⟨b, i * 3, none⟩ = some (.string ⟨(ls i).toArray⟩) ∧ w.cell? ⟨b, i * 3 + 1, none⟩ = some (.string ⟨(nw i).toArray⟩) ∧ w.cell? ⟨b, i * 3 + 2, none⟩ = some (.bool (wt i)) := by
  obtain ⟨a, h1, h2, h3⟩ := h
  rw [box_cell h1, box_cell h1, box_cell h1]
  exact h3 i hi
theorem RSecs.free {w : World} {b n : Nat} {ls nw : Nat → List UInt8} {wt : Nat → Bool} (h : RSecs w b n ls nw wt) (k : Nat) : w.frozen? ⟨b, k, none⟩ = false := by
  obtain ⟨a, h1, _⟩ := h
  exact box_free h1 k
theorem RSecs.setL {w : World} {b n : Nat} {ls nw : Nat → List UInt8} {wt : Nat → Bool} (h : RSecs w b n ls nw wt) (i : Nat) (s : List UInt8) :
    RSecs (w.setCell ⟨b, i * 3, none⟩ (.string ⟨s.toArray⟩)) b n (fun j => if j = i then s else ls j) nw wt := by
  obtain ⟨a, h1, h2, h3⟩ := h
  refine ⟨_, box_set h1 _ _, by simpa using h2, fun j hj => ?_⟩
  obtain ⟨g0, g1, g2⟩ := h3 j hj
  have o0 : i * 3 ≠ j * 3 + 1 := by omega
  have o1 : i * 3 ≠ j * 3 + 2 := by omega
  refine ⟨?_, by rw [Array.getElem?_setIfInBounds_ne o0]; exact g1, by rw [Array.getElem?_setIfInBounds_ne o1]; exact g2⟩
  by_cases e : j = i
  · subst e
    rw [Array.getElem?_setIfInBounds_self_of_lt (by omega)]; simp
  · rw [Array.getElem?_setIfInBounds_ne (by omega), g0]; simp [e]
theorem RSecs.setN {w : World} {b n : Nat} {ls nw : Nat → List UInt8} {wt : Nat → Bool} (h : RSecs w b n ls nw wt) (i : Nat) (s : List UInt8) :
    RSecs (w.setCell ⟨b, i * 3 + 1, none⟩ (.string ⟨s.toArray⟩)) b n ls (fun j => if j = i then s else nw j) wt := by
  obtain ⟨a, h1, h2, h3⟩ := h
  refine ⟨_, box_set h1 _ _, by simpa using h2, fun j hj => ?_⟩
  obtain ⟨g0, g1, g2⟩ := h3 j hj
  have o0 : i * 3 + 1 ≠ j * 3 := by omega
  have o1 : i * 3 + 1 ≠ j * 3 + 2 := by omega
  refine ⟨by rw [Array.getElem?_setIfInBounds_ne o0]; exact g0, ?_, by rw [Array.getElem?_setIfInBounds_ne o1]; exact g2⟩
  by_cases e : j = i
  · subst e
    rw [Array.getElem?_setIfInBounds_self_of_lt (by omega)]; simp
  · rw [Array.getElem?_setIfInBounds_ne (by omega), g1]; simp [e]
theorem RSecs.setW {w : World} {b n : Nat} {ls nw : Nat → List UInt8} {wt : Nat → Bool} (h : RSecs w b n ls nw wt) (i : Nat) (v : Bool) :
    RSecs (w.setCell ⟨b, i * 3 + 2, none⟩ (.bool v)) b n ls nw (fun j => if j = i then v else wt j) := by
  obtain ⟨a, h1, h2, h3⟩ := h
  refine ⟨_, box_set h1 _ _, by simpa using h2, fun j hj => ?_⟩
  obtain ⟨g0, g1, g2⟩ := h3 j hj
  have o0 : i * 3 + 2 ≠ j * 3 := by omega
  have o1 : i * 3 + 2 ≠ j * 3 + 1 := by omega
  refine ⟨by rw [Array.getElem?_setIfInBounds_ne o0]; exact g0, by rw [Array.getElem?_setIfInBounds_ne o1]; exact g1, ?_⟩
  by_cases e : j = i
  · subst e
    rw [Array.getElem?_setIfInBounds_self_of_lt (by omega)]; simp
  · rw [Array.getElem?_setIfInBounds_ne (by omega), g2]; simp [e]
/-- A device of the document's. -/
structure RefAt (w : World) (r b n q : Nat) (c f : Int) (d : Bool) (ls nw : Nat → List UInt8) (wt : Nat → Bool) : Prop where
  box : w.heap[r]? = some (.cells #[.slice (some ⟨b, 0, none⟩) n q, .int .i64 c, .int .i64 f, .bool d] 52 (0, 0))
  sec : RSecs w b n ls nw wt
  rb : r ≠ b
  nb : n ≤ 8192
theorem RefAt.lt {w : World} {r b n q : Nat} {c f : Int} {d : Bool} {ls nw : Nat → List UInt8} {wt : Nat → Bool} (h : RefAt w r b n q c f d ls nw wt) : r < w.heap.size ∧ b < w.heap.size := ⟨lt_of_heap h.box, h.sec.lt⟩
theorem RefAt.keep {w w1 : World} {r b n q : Nat} {c f : Int} {d : Bool} {ls nw : Nat → List UInt8} {wt : Nat → Bool} (h : RefAt w r b n q c f d ls nw wt) {l : List Nat} (hfr : Fr l w w1) (hr : r ∉ l) (hb : b ∉ l) : RefAt w1 r b n q c f d ls nw wt :=
  ⟨hfr.keep h.box hr, h.sec.keep (hfr.block b h.sec.lt hb), h.rb, h.nb⟩
theorem RefAt.reboxed {w w1 : World} {r b n q : Nat} {c f c' f' : Int} {d d' : Bool} {ls nw : Nat → List UInt8} {wt : Nat → Bool} (h : RefAt w r b n q c f d ls nw wt) (hfr : Fr [r] w w1)
    (hb : w1.heap[r]? = some (.cells #[.slice (some ⟨b, 0, none⟩) n q, .int .i64 c', .int .i64 f', .bool d'] 52 (0, 0))) : RefAt w1 r b n q c' f' d' ls nw wt :=
  ⟨hb, h.sec.keep (hfr.block b h.sec.lt (by simpa using Ne.symm h.rb)), h.rb, h.nb⟩
/-- What burn leaves of the fuse. -/
def fuseR (f : Int) : Int := if f = 0 then 0 else if 0 < f then f - 1 else -1
set_option maxHeartbeats 400000 in
theorem burn_calls (w : World) (r b n q : Nat) (c f : Int) (d : Bool) (ls nw : Nat → List UInt8) (wt : Nat → Bool) (h : RefAt w r b n q c f d ls nw wt) (hf : -1 ≤ f ∧ f ≤ 9223372036854775807) :
    Calls Try.prog 35 #[.pointer (some ⟨r, 0, none⟩)] w fun e w' => e = .returned (.bool (decide (f ≠ 0))) ∧ Fr [r] w w' ∧ RefAt w' r b n q c (fuseR f) (if f = 0 then true else d) ls nw wt := by
  have hc := box_cell h.box; have hff := box_free h.box
  by_cases f0 : f = 0
  · subst f0
    refine calls_raw (v := .bool false) (W := w.setCell ⟨r, 3, none⟩ (.bool true)) ?_ ⟨rfl, (Fr.refl _ _).setCell (.inl (by simp)) _, h.reboxed ((Fr.refl _ _).setCell (.inl (by simp)) _) (box_set h.box 3 (.bool true))⟩
    clear h hf
    go_enter Try.func35, Try.ntmps35
    go_wp2
    go_ret
    exact ⟨rfl, rfl⟩
  · have f2 : (f == 0) = false := by simpa using f0
    obtain ⟨g, hg⟩ : ∃ g : Int, g = fuseR f := ⟨_, rfl⟩
    rw [if_neg f0, ← hg]
    refine calls_raw (v := .bool true) (W := w.setCell ⟨r, 2, none⟩ (.int .i64 g)) ?_ ⟨by simp [f0], (Fr.refl _ _).setCell (.inl (by simp)) _, h.reboxed ((Fr.refl _ _).setCell (.inl (by simp)) _) (box_set h.box 2 (.int .i64 g))⟩
    clear h
    go_enter Try.func35, Try.ntmps35
    go_wp2_with fail
    all_goals
      go_ret
      refine ⟨rfl, ?_⟩
      congr 2
      unfold fuseR
      rw [if_neg f0]
      split <;> omega
set_option maxHeartbeats 400000 in
theorem rread_dead (w : World) (r b n q : Nat) (c f : Int) (ls nw : Nat → List UInt8) (wt : Nat → Bool) (h : RefAt w r b n q c f true ls nw wt) (i : Int) :
    Calls Try.prog 20 #[.pointer (some ⟨r, 0, none⟩), .int .i64 i] w fun e w' => e = .returned (.tuple #[.string ⟨#[]⟩, .int .i64 50]) ∧ w = w' := by
  have hc := box_cell h.box; clear h
  go_enter Try.func20, Try.ntmps20
  go_wp2
  go_ret2
  exact ⟨rfl, rfl⟩
set_option maxHeartbeats 400000 in
theorem rread_arg (w : World) (r b n q : Nat) (c f : Int) (ls nw : Nat → List UInt8) (wt : Nat → Bool) (h : RefAt w r b n q c f false ls nw wt) (i : Int) (hout : ¬ (0 ≤ i ∧ i < n)) :
    Calls Try.prog 20 #[.pointer (some ⟨r, 0, none⟩), .int .i64 i] w fun e w' => e = .returned (.tuple #[.string ⟨#[]⟩, .int .i64 1]) ∧ w = w' := by
  have hc := box_cell h.box; have hnb := h.nb; clear h
  by_cases h0 : i < 0
  · clear hout
    go_enter Try.func20, Try.ntmps20
    go_wp2
    go_ret2
    exact ⟨rfl, rfl⟩
  · have h1 : (n : Int) ≤ i := by omega
    clear hout
    go_enter Try.func20, Try.ntmps20
    go_wp2
    go_ret2
    exact ⟨rfl, rfl⟩
set_option maxHeartbeats 400000 in
theorem rread_ok (w : World) (r b n q : Nat) (c f : Int) (ls nw : Nat → List UInt8) (wt : Nat → Bool) (h : RefAt w r b n q c f false ls nw wt) (hcb : 0 ≤ c ∧ c < 9000000000000000000) (i : Nat) (hi : i < n) :
    Calls Try.prog 20 #[.pointer (some ⟨r, 0, none⟩), .int .i64 i] w fun e w' => e = .returned (.tuple #[.string ⟨(nw i).toArray⟩, .int .i64 0]) ∧ Fr [r] w w' ∧ RefAt w' r b n q (c + 1) f false ls nw wt := by
  have hc := box_cell h.box; have hf := box_free h.box; have hnb := h.nb; have hrb := h.rb
  obtain ⟨h1, h2, h3⟩ := h.sec.cells hi
  refine calls_raw (v := .tuple #[.string ⟨(nw i).toArray⟩, .int .i64 0]) (W := w.setCell ⟨r, 1, none⟩ (.int .i64 (c + 1))) ?_ ⟨rfl, (Fr.refl _ _).setCell (.inl (by simp)) _, h.reboxed ((Fr.refl _ _).setCell (.inl (by simp)) _) (box_set h.box 1 _)⟩
  have h2' : (w.setCell ⟨r, 1, none⟩ (.int .i64 (c + 1))).cell? ⟨b, i * 3 + 1, none⟩ = some (.string ⟨(nw i).toArray⟩) := by
    obtain ⟨a, g1, g2, g3⟩ := h.sec.keep (w' := w.setCell ⟨r, 1, none⟩ (.int .i64 (c + 1))) (heap_set_other (Ne.symm hrb))
    rw [box_cell g1]; exact (g3 i hi).2.1
  have hc' := box_cell (box_set h.box 1 (.int .i64 (c + 1)))
  clear h h1 h3 h2
  go_enter Try.func20, Try.ntmps20
  go_wp2
  go_ret2
  exact ⟨rfl, rfl⟩
set_option maxHeartbeats 400000 in
theorem rwrite_dead (w : World) (r b n q : Nat) (c f : Int) (ls nw : Nat → List UInt8) (wt : Nat → Bool) (h : RefAt w r b n q c f true ls nw wt) (i : Int) (s : ByteArray) :
    Calls Try.prog 19 #[.pointer (some ⟨r, 0, none⟩), .int .i64 i, .string s] w fun e w' => e = .returned (.int .i64 50) ∧ w = w' := by
  have hc := box_cell h.box; clear h
  go_enter Try.func19, Try.ntmps19
  go_wp2
  go_ret
  exact ⟨rfl, rfl⟩
set_option maxHeartbeats 400000 in
theorem rwrite_arg (w : World) (r b n q : Nat) (c f : Int) (ls nw : Nat → List UInt8) (wt : Nat → Bool) (h : RefAt w r b n q c f false ls nw wt) (i : Int) (s : List UInt8) (k : Nat) (hk : s.length = k) (hout : ¬ (0 ≤ i ∧ i < n ∧ k = 64)) :
    Calls Try.prog 19 #[.pointer (some ⟨r, 0, none⟩), .int .i64 i, .string ⟨s.toArray⟩] w fun e w' => e = .returned (.int .i64 1) ∧ w = w' := by
  have hc := box_cell h.box; have hnb := h.nb; clear h
  have hsz : (⟨s.toArray⟩ : ByteArray).size = k := by simp [ByteArray.size, hk]
  by_cases h0 : i < 0
  · clear hout
    go_enter Try.func19, Try.ntmps19
    go_wp2
    go_ret
    exact ⟨rfl, rfl⟩
  · by_cases h1 : (n : Int) ≤ i
    · clear hout
      go_enter Try.func19, Try.ntmps19
      go_wp2
      go_ret
      exact ⟨rfl, rfl⟩
    · have h2 : ¬ k = 64 := by omega
      clear hout
      go_enter Try.func19, Try.ntmps19
      go_wp2_with fail
      go_ret
      exact ⟨rfl, rfl⟩
set_option maxHeartbeats 400000 in
theorem rwrite_burnt (w : World) (r b n q : Nat) (c : Int) (ls nw : Nat → List UInt8) (wt : Nat → Bool) (h : RefAt w r b n q c 0 false ls nw wt) (i : Nat) (hi : i < n) (s : List UInt8) (hs : s.length = 64) :
    Calls Try.prog 19 #[.pointer (some ⟨r, 0, none⟩), .int .i64 i, .string ⟨s.toArray⟩] w fun e w' => e = .returned (.int .i64 50) ∧ Fr [r] w w' ∧ RefAt w' r b n q c 0 true ls nw wt := by
  have hc := box_cell h.box; have hnb := h.nb
  have hsz : (⟨s.toArray⟩ : ByteArray).size = 64 := by simp [ByteArray.size, hs]
  have HB := Lib.hid (burn_calls w r b n q c 0 false ls nw wt h (by omega)); clear h
  go_enter Try.func19, Try.ntmps19
  go_wp2_with fail
  refine HB.out.mono ?_
  rintro e w2 ⟨rfl, hf2, hd2⟩
  go_wp2_with fail
  go_ret
  exact ⟨rfl, hf2, hd2⟩
set_option maxHeartbeats 400000 in
theorem rwrite_ok (w : World) (r b n q : Nat) (c f : Int) (ls nw : Nat → List UInt8) (wt : Nat → Bool) (h : RefAt w r b n q c f false ls nw wt) (hf : -1 ≤ f ∧ f ≤ 9223372036854775807) (f0 : f ≠ 0) (hcb : 0 ≤ c ∧ c < 9000000000000000000) (i : Nat) (hi : i < n) (s : List UInt8) (hs : s.length = 64) :
    Calls Try.prog 19 #[.pointer (some ⟨r, 0, none⟩), .int .i64 i, .string ⟨s.toArray⟩] w fun e w' => e = .returned (.int .i64 0) ∧ Fr [r, b] w w' ∧ RefAt w' r b n q (c + 1) (fuseR f) false ls (fun j => if j = i then s else nw j) (fun j => if j = i then true else wt j) := by
  have hc := box_cell h.box; have hnb := h.nb; have hrb := h.rb; have hbr := Ne.symm hrb
  have hsz : (⟨s.toArray⟩ : ByteArray).size = 64 := by simp [ByteArray.size, hs]
  have HB := Lib.hid (burn_calls w r b n q c f false ls nw wt h hf); clear h
  go_enter Try.func19, Try.ntmps19
  go_wp2_with fail
  refine HB.out.mono ?_
  rintro e w2 ⟨rfl, hf2, hd2⟩
  have hdec : decide (f ≠ 0) = true := by simpa using f0
  rw [if_neg f0] at hd2
  have hc2 := box_cell hd2.box; have hfr2 := box_free hd2.box
  have hs1 := (hd2.sec.cells hi).2.1; have hs2 := (hd2.sec.cells hi).2.2
  have hsf := hd2.sec.free
  have g1 := hd2.reboxed ((Fr.refl _ _).setCell (.inl (by simp)) _) (box_set hd2.box 1 (.int .i64 (c + 1)))
  have HG := Lib.hid g1; have HF2 := Lib.hid hf2
  clear hd2 hf2 g1 HB
  go_wp2_with fail
  go_ret
  have g := HG.out
  refine ⟨rfl, ?_, ?_⟩
  · exact (((HF2.out.mono (by simp)).setCell (.inl (by simp)) _).setCell (.inl (by simp)) _).setCell (.inl (by simp)) _
  · have k1 := g.sec.setN i s
    have k2 := k1.setW i true
    exact ⟨by rw [heap_set_other (by simpa using hrb), heap_set_other (by simpa using hrb)]; exact g.box, k2, g.rb, g.nb⟩
end Go.Proofs.Ythjoakgcmelhmaa
