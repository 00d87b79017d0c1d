/-
  The device's calls, one contract each.
-/
import Derived.Test.YtoifpbifipgpkaaLaws
import Derived.Deep.DeepMust
import Derived.Deep.DeepFit
import Derived.Outline
namespace Go.Proofs.Ytoifpbifipgpkaa
open Go.RowKit Go.MapKept

/-- n sectors in block l. -/
def Secs (w : World) (l n : Nat) (ls : Nat → List UInt8) : Prop :=
  ∃ lc, w.heap[l]? = some (.cells lc 91 (0, 0)) ∧ n * 64 ≤ lc.size ∧ ∀ i, i < n → (ls i).length = 64 ∧ ∀ j, j < 64 → lc[i * 64 + j]? = (cel (ls i))[j]?
/-- A device at p. -/
structure DevAt (w : World) (p l m n q : Nat) (c f : Int) (d : Bool) (ls : Nat → List UInt8) (wt : Int → Option (List UInt8)) : Prop where
  box : w.heap[p]? = some (.cells #[.slice (some ⟨l, 0, none⟩) n q, .map (some m), .int .i64 c, .int .i64 f, .bool d] 95 (0, 0))
  las : Secs w l n ls
  wai : IMap w m (fun i => (wt i).map secV)
  dom : ∀ i s, wt i = some s → 0 ≤ i ∧ i < n ∧ s.length = 64
  pl : p ≠ l
  nb : n ≤ 8192

theorem DevAt.pm {w : World} {p l m n q : Nat} {c f : Int} {d : Bool} {ls : Nat → List UInt8} {wt : Int → Option (List UInt8)} (h : DevAt w p l m n q c f d ls wt) : p ≠ m := fun e => by
  obtain ⟨es, clk, h1, _⟩ := h.wai
  rw [← e, h.box] at h1; cases h1
theorem DevAt.lm {w : World} {p l m n q : Nat} {c f : Int} {d : Bool} {ls : Nat → List UInt8} {wt : Int → Option (List UInt8)} (h : DevAt w p l m n q c f d ls wt) : l ≠ m := fun e => by
  obtain ⟨es, clk, h1, _⟩ := h.wai
  obtain ⟨lc, h2, _⟩ := h.las
  rw [← e, h2] at h1; cases h1
theorem Secs.keep {w w' : World} {l n : Nat} {ls : Nat → List UInt8} (h : Secs w l n ls) (hb : w'.heap[l]? = w.heap[l]?) : Secs w' l n ls := by
  obtain ⟨lc, h1, h2⟩ := h
  exact ⟨lc, by rw [hb, h1], h2⟩
theorem Secs.range {w : World} {l n : Nat} {ls : Nat → List UInt8} (h : Secs w l n ls) {i : Nat} (hi : i < n) : w.rangeAt l (i * 64) (cel (ls i)) := by
  obtain ⟨lc, h1, _, h3⟩ := h
  intro j v hv
  have hj : j < 64 := by have := (List.getElem?_eq_some_iff.1 hv).1; rw [cel_length, (h3 i hi).1] at this; exact this
  rw [box_cell h1, (h3 i hi).2 j hj]; exact hv

theorem Try.zero65 (w : World) : (zeroValue 91).run Try.prog w = .ok (.agg zcells) w := by kernel_rfl
theorem Try.size65 : (Try.prog.info? 91).map (·.size) = some 64 := by kernel_rfl

set_option maxHeartbeats 400000 in
theorem has_calls (p l n q m : Nat) (c f : Int) (d : Bool) (i : Int) (w : World) (_hi : -9223372036854775808 ≤ i ∧ i ≤ 9223372036854775807) (_hn : n ≤ 8192) (b : Bool) (hb : b = decide (0 ≤ i ∧ i < n))
   (h : w.heap[p]? = some (.cells #[.slice (some ⟨l, 0, none⟩) n q, .map (some m), .int .i64 c, .int .i64 f, .bool d] 95 (0, 0))) :
    Calls Try.prog 66 #[.pointer (some ⟨p, 0, none⟩), .int .i64 i] w fun e w' => e = .returned (.bool b) ∧ w = w' := by
  have hc := box_cell h; clear h
  by_cases h0 : 0 ≤ i
  · by_cases h1 : i < n
    · obtain rfl : b = true := by simp [hb, h0, h1]
      clear hb
      go_enter Try.func66, Try.ntmps66
      go_wp2
      go_ret
      exact ⟨rfl, rfl⟩
    · obtain rfl : b = false := by simp [hb, h1]
      clear hb
      go_enter Try.func66, Try.ntmps66
      go_wp2
      go_ret
      exact ⟨rfl, rfl⟩
  · obtain rfl : b = false := by simp [hb, h0]
    clear hb
    go_enter Try.func66, Try.ntmps66
    go_wp2
    go_ret
    exact ⟨rfl, rfl⟩

/-- What spend leaves. -/
def spent (c f : Int) (d : Bool) : Int × Int × Bool := if f = 0 then (c, f, true) else if 0 < f then (c + 1, f - 1, d) else (c + 1, f, d)
theorem calls_raw {P : Program} {f : FuncId} {args : Array Value} {w W : World} {v : Value} {R : Ending → World → Prop} (h : Calls P f args w fun e w' => e = .returned v ∧ W = w') (hR : R (.returned v) W) : Calls P f args w R :=
  h.mono fun _ _ ⟨he, hw⟩ => by subst he; subst hw; exact hR
set_option maxHeartbeats 400000 in
theorem spend_calls (p l n q m : Nat) (c f : Int) (d : Bool) (w : World) (hcl : 0 ≤ c ∧ c < 9000000000000000000) (hfl : -9223372036854775808 ≤ f ∧ f ≤ 9223372036854775807)
   (h : w.heap[p]? = some (.cells #[.slice (some ⟨l, 0, none⟩) n q, .map (some m), .int .i64 c, .int .i64 f, .bool d] 95 (0, 0))) :
    Calls Try.prog 68 #[.pointer (some ⟨p, 0, none⟩)] w fun e w' => e = .returned (.int .i64 (if f = 0 then 50 else 0)) ∧ Fr [p] w w' ∧
      w'.heap[p]? = some (.cells #[.slice (some ⟨l, 0, none⟩) n q, .map (some m), .int .i64 (spent c f d).1, .int .i64 (spent c f d).2.1, .bool (spent c f d).2.2] 95 (0, 0)) := by
  have hc := box_cell h; have hf := box_free h
  by_cases f0 : f = 0
  · subst f0
    refine calls_raw (v := .int .i64 50) (W := w.setCell ⟨p, 4, none⟩ (.bool true)) ?_ ⟨rfl, (Fr.refl _ _).setCell (.inl (by simp)) _, box_set h 4 (.bool true)⟩
    clear h hfl
    go_enter Try.func68, Try.ntmps68
    go_wp2
    go_ret
    exact ⟨rfl, rfl⟩
  · have f2 : (f == 0) = false := by simpa using f0
    by_cases f1 : 0 < f
    · refine calls_raw (v := .int .i64 0) (W := (w.setCell ⟨p, 3, none⟩ (.int .i64 (f - 1))).setCell ⟨p, 2, none⟩ (.int .i64 (c + 1))) ?_ ⟨by rw [if_neg f0], ((Fr.refl _ _).setCell (.inl (by simp)) _).setCell (.inl (by simp)) _, ?_⟩
      · clear h f0
        go_enter Try.func68, Try.ntmps68
        go_wp2
        go_ret
        exact ⟨rfl, rfl⟩
      · rw [show spent c f d = (c + 1, f - 1, d) by simp [spent, f0, f1]]
        exact box_set (box_set h 3 (.int .i64 (f - 1))) 2 (.int .i64 (c + 1))
    · have f3 : f < 0 := by omega
      refine calls_raw (v := .int .i64 0) (W := w.setCell ⟨p, 2, none⟩ (.int .i64 (c + 1))) ?_ ⟨by rw [if_neg f0], (Fr.refl _ _).setCell (.inl (by simp)) _, ?_⟩
      · clear h f0 f1
        go_enter Try.func68, Try.ntmps68
        go_wp2
        go_ret
        exact ⟨rfl, rfl⟩
      · rw [show spent c f d = (c + 1, f, d) by simp [spent, f0, f1]]
        exact box_set h 2 (.int .i64 (c + 1))

/-- The parts of a device that lie outside its own block. -/
theorem DevAt.reboxed {w w1 : World} {p l m n q : Nat} {c f c' f' : Int} {d d' : Bool} {ls : Nat → List UInt8} {wt : Int → Option (List UInt8)} (h : DevAt w p l m n q c f d ls wt) (hfr : Fr [p] w w1)
    (hb : w1.heap[p]? = some (.cells #[.slice (some ⟨l, 0, none⟩) n q, .map (some m), .int .i64 c', .int .i64 f', .bool d'] 95 (0, 0))) : DevAt w1 p l m n q c' f' d' ls wt := by
  have hl : w1.heap[l]? = w.heap[l]? := by
    obtain ⟨lc, h1, _⟩ := h.las
    exact hfr.block l (lt_of_heap h1) (by simpa using Ne.symm h.pl)
  have hm : w1.heap[m]? = w.heap[m]? := hfr.block m h.wai.lt (by simpa using Ne.symm h.pm)
  exact ⟨hb, h.las.keep hl, h.wai.keep hm, h.dom, h.pl, h.nb⟩
theorem DevAt.keep {w w1 : World} {p l m n q : Nat} {c f : Int} {d : Bool} {ls : Nat → List UInt8} {wt : Int → Option (List UInt8)} (h : DevAt w p l m n q c f d ls wt) {r : List Nat} (hfr : Fr r w w1) (hp : p ∉ r) (hl : l ∉ r) (hm : m ∉ r) : DevAt w1 p l m n q c f d ls wt := by
  have hl : w1.heap[l]? = w.heap[l]? := by
    obtain ⟨lc, h1, _⟩ := h.las
    exact hfr.block l (lt_of_heap h1) hl
  exact ⟨hfr.keep h.box hp, h.las.keep hl, h.wai.keep (hfr.block m h.wai.lt hm), h.dom, h.pl, h.nb⟩

theorem Try.info5 : (Try.prog.info? 5).map (fun i => (i.zero, i.size, i.bytes)) = some (some (.int .u8 0), 1, 1) := by kernel_rfl
theorem run_build0 (w : World) : (Instr.buildSlice 29 0 #[]).run Try.prog w = .ok (.slice (some ⟨w.heap.size, 0, none⟩) 0 0) (w.alloc (.cells #[] 5)) := by kernel_rfl
theorem ownsRow_empty (w : World) (T : TypeId) (k : Nat) (B : Nat) (hB : B ≤ w.heap.size): (w.alloc (.cells #[] T)).ownsRow B T k (.slice (some ⟨w.heap.size, 0, none⟩) 0 0) 0 [] := by
  refine ⟨by simp, .inr ⟨w.heap.size, 0, #[], rfl, hB, heap_alloc_new _ _, Nat.le_refl _, by unfold maxLen; omega, by simp, by simp⟩⟩
theorem ownsRow_base {w : World} {B B' : Nat} {T : TypeId} {k n : Nat} {v : Value} {xs : List Value} (h : w.ownsRow B T k v n xs) (hB : B' ≤ B) : w.ownsRow B' T k v n xs := by
  obtain ⟨h1, h2⟩ := h
  refine ⟨h1, h2.imp id ?_⟩
  rintro ⟨g, cap, cur, h3, h4, h5⟩
  exact ⟨g, cap, cur, h3, Nat.le_trans hB h4, h5⟩

/-- A copy of bytes. -/
def CloneB (w : World) (s : List UInt8) (e : Ending) (w' : World) : Prop := ∃ v, e = .returned v ∧ Fr [] w w' ∧ w'.ownsRow w.heap.size 5 1 v s.length (cel s)
set_option maxRecDepth 100000 in
set_option maxHeartbeats 400000 in
theorem cloneB_calls (b o cap : Nat) (s : List UInt8) (w : World) (h : w.rangeAt b o (cel s)) (k : Nat) (hk : s.length = k) (hs : k ≤ 64) :
    Calls Try.prog 67 #[.slice (some ⟨b, o, none⟩) k cap] w (CloneB w s) := by
  subst hk
  have H := Lib.hid h; clear h
  have hn := fun w : World => Lib.run_eql_slice_nil (P := Try.prog) w 29 5 (some ⟨b, o, none⟩) s.length cap 0 0 Try.underlying29
  obtain ⟨i0, hi, hz0, hz1, hz2⟩ := info_parts Try.info5
  have hbs := run_build0
  go_enter Try.func67, Try.ntmps67
  go_wp2_with (first | (at_builtin; refine wpList_append_own _ rfl _ _ 29 rfl (w.heap.size) 5 i0 (.int .u8 0) 1 1 Try.underlying29 hi hz0 hz1 hz2 rfl (by decide) _ 0 [] rfl (ownsRow_empty w 5 1 w.heap.size (Nat.le_refl _)) ⟨b, o, none⟩ s.length cap (cel s) rfl ?c1 ?c2 ?c3 ?c4 ?c5 ?c6 ?_) | fail)
  case c1 => simp [cel_length]
  case c2 =>
    intro j u hu
    rw [Addr.add_mid]
    exact World.rangeAt_alloc H.out _ j u hu
  case c3 => exact cel_one s
  case c4 => unfold maxLen; omega
  case c5 => omega
  case c6 => simp
  intro v' w1 hown hg _
  go_wp2_with fail
  go_ret
  exact ⟨v', rfl, (((Fr.refl [] w).alloc _).grown hg (fun k hk => by simp [Value.ownBlock] at hk; subst hk; exact .inr (Nat.le_refl _))), by simpa using hown⟩

theorem rangeAt_new (w : World) (cs : List Value) (T : TypeId) (b : Nat) (hb : b = w.heap.size) : (w.alloc (.cells cs.toArray T)).rangeAt b 0 cs := by
  subst hb
  intro j v hv
  rw [box_cell (heap_alloc_new w (.cells cs.toArray T))]
  simpa using hv
/-- A fuse that has burnt once. -/
def burnF (f : Int) : Int := if 0 < f then f - 1 else f
theorem spent_ne {c f : Int} {d : Bool} (h : f ≠ 0) : spent c f d = (c + 1, burnF f, d) := by
  unfold spent burnF
  rw [if_neg h]
  by_cases h1 : 0 < f
  · rw [if_pos h1, if_pos h1]
  · rw [if_neg h1, if_neg h1]
theorem Secs.set {w : World} {l n : Nat} {ls : Nat → List UInt8} (h : Secs w l n ls) {i : Nat} (hi : i < n) {s : List UInt8} (hs : s.length = 64) : Secs (w.setCells l (i * 64) (cel s)) l n (fun j => if j = i then s else ls j) := by
  obtain ⟨lc, h1, h2, h3⟩ := h
  have key : ∀ (vs : List Value) (o : Nat) (w : World) (lc : Array Value), w.heap[l]? = some (.cells lc 91 (0, 0)) → o + vs.length ≤ lc.size →
      ∃ lc', (w.setCells l o vs).heap[l]? = some (.cells lc' 91 (0, 0)) ∧ lc'.size = lc.size ∧ (∀ k, k < o ∨ o + vs.length ≤ k → lc'[k]? = lc[k]?) ∧ ∀ k, k < vs.length → lc'[o + k]? = vs[k]? := by
    intro vs
    induction vs with
    | nil => intro o w lc h1 _; exact ⟨lc, h1, rfl, fun _ _ => rfl, fun k hk => by simp at hk⟩
    | cons v r ih =>
      intro o w lc h1 hl
      simp only [List.length_cons] at hl
      obtain ⟨lc', g1, g2, g3, g4⟩ := ih (o + 1) (w.setCell ⟨l, o, none⟩ v) (lc.setIfInBounds o v) (box_set h1 o v) (by simp; omega)
      refine ⟨lc', g1, by simpa using g2, fun k hk => ?_, fun k hk => ?_⟩
      · simp only [List.length_cons] at hk
        rw [g3 k (by omega), Array.getElem?_setIfInBounds]
        rw [if_neg (by omega)]
      · cases k with
        | zero => rw [g3 (o + 0) (by omega)]; simp [show o < lc.size by omega]
        | succ k =>
          simp only [List.length_cons] at hk
          have := g4 k (by omega)
          rw [show o + (k + 1) = o + 1 + k by omega, this]
          simp
  obtain ⟨lc', g1, g2, g3, g4⟩ := key (cel s) (i * 64) w lc h1 (by rw [cel_length, hs]; omega)
  rw [cel_length, hs] at g3 g4
  refine ⟨lc', g1, by rw [g2]; exact h2, fun j hj => ?_⟩
  by_cases e : j = i
  · subst e
    simp only [if_true]
    exact ⟨hs, g4⟩
  · simp only [if_neg e]
    refine ⟨(h3 j hj).1, fun k hk => ?_⟩
    rw [g3 (j * 64 + k) (by omega)]
    exact (h3 j hj).2 k hk
theorem Secs.there {w : World} {l n : Nat} {ls : Nat → List UInt8} (h : Secs w l n ls) {i : Nat} (hi : i < n) : w.there l (i * 64) 64 := by
  obtain ⟨lc, h1, h2, _⟩ := h
  intro j hj
  rw [box_cell h1, box_free h1]
  exact ⟨by simp; omega, rfl⟩
end Go.Proofs.Ytoifpbifipgpkaa
