/-
  A device and the document's own, side by side.
-/
import Derived.Test.YthjoakgcmelhmaaSame
import Derived.Test.YthjoakgcmelhmaaDevCopy
import Derived.Test.YthjoakgcmelhmaaDevRead2
import Derived.Test.YthjoakgcmelhmaaDevCrash
import Derived.Test.YthjoakgcmelhmaaDevFlush
import Derived.Test.YthjoakgcmelhmaaDevWrite
namespace Go.Proofs.Ythjoakgcmelhmaa
open Go.RowKit Go.MapKept
/-- The fuse that the document's own device has. -/
def fuseOf (f : Int) : Int := if f < -1 then -1 else f
/-- The two devices tell the same. -/
structure Tie (w : World) (p l m q r b q' n : Nat) (c f : Int) (d : Bool) (ls : Nat → List UInt8) (wt : Int → Option (List UInt8)) : Prop where
  dev : DevAt w p l m n q c f d ls wt
  ref : RefAt w r b n q' c (fuseOf f) d ls (fun j => secNow ls wt j) (fun j => (wt j).isSome)
  sep : p ≠ r ∧ p ≠ b ∧ l ≠ r ∧ l ≠ b ∧ m ≠ r ∧ m ≠ b
  rng : -9223372036854775808 ≤ f ∧ f ≤ 9223372036854775807
theorem Tie.same {w : World} {p l m q r b q' n : Nat} {c f : Int} {d : Bool} {ls : Nat → List UInt8} {wt : Int → Option (List UInt8)} (h : Tie w p l m q r b q' n c f d ls wt) :
    Calls Try.prog 24 #[.pointer (some ⟨p, 0, none⟩), .pointer (some ⟨r, 0, none⟩)] w fun e w' => e = .returned (.bool true) ∧ Fr [] w w' :=
  same_calls w p l m n q c f d ls wt h.dev r b q' _ _ _ _ h.ref (fun j _ => by cases wt j <;> simp)
theorem Tie.keep {w w' : World} {p l m q r b q' n : Nat} {c f : Int} {d : Bool} {ls : Nat → List UInt8} {wt : Int → Option (List UInt8)} (h : Tie w p l m q r b q' n c f d ls wt) (hf : Fr [] w w') : Tie w' p l m q r b q' n c f d ls wt :=
  ⟨h.dev.keep hf (by simp) (by simp) (by simp), h.ref.keep hf (by simp) (by simp), h.sep, h.rng⟩
theorem fuse_zero {f : Int} : fuseOf f = 0 ↔ f = 0 := by unfold fuseOf; split <;> omega
theorem fuse_step {f : Int} (h : f ≠ 0) : fuseR (fuseOf f) = fuseOf (burnF f) := by
  unfold fuseR fuseOf burnF
  repeat' split
  all_goals omega
theorem fuse_rng {f : Int} (h : -9223372036854775808 ≤ f ∧ f ≤ 9223372036854775807) : -1 ≤ fuseOf f ∧ fuseOf f ≤ 9223372036854775807 := by unfold fuseOf; split <;> omega
/-- Behind a Write that goes on. -/
theorem Tie.afterWrite {w w1 w2 : World} {p l m q r b q' n : Nat} {c f : Int} {ls : Nat → List UInt8} {wt : Int → Option (List UInt8)} (h : Tie w p l m q r b q' n c f false ls wt) (f0 : f ≠ 0) {i : Nat} {s : List UInt8}
    (hf1 : Fr [p, l, m] w w1) (hd : DevAt w1 p l m n q (c + 1) (burnF f) false ls (wrote wt i s))
    (hf2 : Fr [r, b] w1 w2) (hr : RefAt w2 r b n q' (c + 1) (fuseR (fuseOf f)) false ls (fun j => if j = i then s else secNow ls wt j) (fun j => if j = i then true else (wt j).isSome)) :
    Tie w2 p l m q r b q' n (c + 1) (burnF f) false ls (wrote wt i s) := by
  have hs := h.sep; have hg := h.rng
  refine ⟨hd.keep hf2 (by simp; omega) (by simp; omega) (by simp; omega), ?_, hs, by unfold burnF; split <;> omega⟩
  rw [fuse_step f0] at hr
  refine hr.congr (fun _ _ => rfl) (fun j _ => ?_) (fun j _ => ?_)
  · by_cases e : j = i
    · subst e; simp [secNow, wrote]
    · have e' : ¬ ((j : Int) = (i : Int)) := by omega
      simp [secNow, wrote, e, e']
  · by_cases e : j = i
    · subst e; simp [wrote]
    · have e' : ¬ ((j : Int) = (i : Int)) := by omega
      simp [wrote, e, e']
/-- Behind a call that found the fuse run out. -/
theorem Tie.burnt {w w1 w2 : World} {p l m q r b q' n : Nat} {c : Int} {ls : Nat → List UInt8} {wt : Int → Option (List UInt8)} (h : Tie w p l m q r b q' n c 0 false ls wt)
    (hd : DevAt w1 p l m n q c 0 true ls wt) (hf2 : Fr [r] w1 w2) (hr : RefAt w2 r b n q' c 0 true ls (fun j => secNow ls wt j) (fun j => (wt j).isSome)) : Tie w2 p l m q r b q' n c 0 true ls wt :=
  have hs := h.sep
  ⟨hd.keep hf2 (by simp; omega) (by simp; omega) (by simp; omega), hr, hs, by omega⟩
/-- Behind a Flush that goes on. -/
theorem Tie.flushed {w w1 w2 : World} {p l m q r b q' n : Nat} {c f : Int} {ls : Nat → List UInt8} {wt : Int → Option (List UInt8)} (h : Tie w p l m q r b q' n c f false ls wt) (f0 : f ≠ 0)
    (hd : DevAt w1 p l m n q (c + 1) (burnF f) false (fun i : Nat => (wt (i : Int)).getD (ls i)) (fun _ => none))
    (hf2 : Fr [r, b] w1 w2) (hr : RefAt w2 r b n q' (c + 1) (fuseR (fuseOf f)) false (fun j => secNow ls wt j) (fun j => secNow ls wt j) (fun _ => false)) :
    Tie w2 p l m q r b q' n (c + 1) (burnF f) false (fun i : Nat => (wt (i : Int)).getD (ls i)) (fun _ => none) := by
  have hs := h.sep; have hg := h.rng
  refine ⟨hd.keep hf2 (by simp; omega) (by simp; omega) (by simp; omega), ?_, hs, by unfold burnF; split <;> omega⟩
  rw [fuse_step f0] at hr
  exact hr.congr (fun _ _ => rfl) (fun j _ => by simp [secNow]) (fun j _ => by simp)
/-- Behind a crash. -/
theorem Tie.crashed {w w1 w2 : World} {p l m q r b q' n : Nat} {c f : Int} {d : Bool} {ls : Nat → List UInt8} {wt : Int → Option (List UInt8)} (h : Tie w p l m q r b q' n c f d ls wt) {flip : Bool} {zs : List Int} {len m' : Nat} (hm : m' = m ∨ w.heap.size ≤ m')
    (hd : DevAt w1 p l m' n q c (-1) false (fun i : Nat => ((if flip then without wt zs len else among wt zs len) (i : Int)).getD (ls i)) (fun _ => none)) (hf2 : Fr [r, b] w1 w2)
    (hr : RefAt w2 r b n q' c (-1) false (finR ls (fun j => secNow ls wt j) (fun j => (wt j).isSome) flip zs len) (finR ls (fun j => secNow ls wt j) (fun j => (wt j).isSome) flip zs len) (fun _ => false)) :
    Tie w2 p l m' q r b q' n c (-1) false (fun i : Nat => ((if flip then without wt zs len else among wt zs len) (i : Int)).getD (ls i)) (fun _ => none) := by
  have hs := h.sep; have hl := h.ref.lt
  have e : ∀ j : Nat, ((if flip then without wt zs len else among wt zs len) (j : Int)).getD (ls j) = finR ls (fun j => secNow ls wt j) (fun j => (wt j).isSome) flip zs len j := by
    intro j
    unfold finR secNow
    cases flip <;> by_cases hm : (j : Int) ∈ zs.take len <;> cases hw : wt j <;> simp [without, among, hm, hw]
  refine ⟨hd.keep hf2 (by simp; omega) (by simp; omega) (by simp; omega), hr.congr (fun j _ => e j) (fun j _ => ?_) (fun j _ => by simp), by omega, by omega⟩
  simp only [secNow, Option.getD_none]
  exact e j
end Go.Proofs.Ythjoakgcmelhmaa
