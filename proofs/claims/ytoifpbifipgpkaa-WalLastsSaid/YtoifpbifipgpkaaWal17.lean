/-
  wal: changes one over the other; what a failed end leaves.
-/
import Derived.Test.YtoifpbifipgpkaaWal16
import Derived.Scope
import Derived.WalkMore
import Derived.ScopeJumps
namespace Go.Proofs.Ytoifpbifipgpkaa
open Go.RowKit Go.MapKept
theorem Card.over {D S : Int → Option (List UInt8)} {a b : Nat} (hD : Card D a) (hS : Card S b) : ∃ k, k ≤ a + b ∧ Card (over D S) k := by
  obtain ⟨ds, hd, hmd, rfl⟩ := hD
  obtain ⟨ss, hs, hms, rfl⟩ := hS
  refine ⟨_, ?_, ds ++ ss.filter (fun x => decide (x ∉ ds)), ?_, fun x => ?_, rfl⟩
  · rw [List.length_append]
    have := List.length_filter_le (fun x => decide (x ∉ ds)) ss
    omega
  · rw [List.nodup_append]
    refine ⟨hd, hs.filter _, fun x hx y hy e => ?_⟩
    subst e
    have := (List.mem_filter.1 hy).2
    simp at this
    exact this hx
  · have e : x ∈ ss ∧ decide (x ∉ ds) = true ↔ x ∈ ss ∧ ¬ x ∈ ds := by simp
    rw [List.mem_append, List.mem_filter, e]
    unfold Go.Proofs.Ytoifpbifipgpkaa.over
    have h1 := hmd x; have h2 := hms x
    cases hx : S x with
    | some s =>
      rw [hx] at h2
      have : x ∈ ss := h2.2 ⟨s, rfl⟩
      refine ⟨fun _ => ⟨s, rfl⟩, fun _ => ?_⟩
      by_cases h : x ∈ ds
      · exact .inl h
      · exact .inr ⟨this, h⟩
    | none =>
      rw [hx] at h2
      have : ¬ x ∈ ss := fun h => by obtain ⟨s, hs⟩ := h2.1 h; cases hs
      simp only [Option.none_or]
      rw [← h1]
      exact ⟨fun h => h.elim id (fun h => absurd h.1 this), .inl⟩
/-- Changes, the last one on top. -/
def overL (Cs : List (Int → Option (List UInt8))) : Int → Option (List UInt8) := Cs.foldl over (fun _ => none)
theorem overL_snoc (Cs : List (Int → Option (List UInt8))) (C : Int → Option (List UInt8)) : overL (Cs ++ [C]) = over (overL Cs) C := by simp [overL]
theorem overL_take (Cs : List (Int → Option (List UInt8))) {j : Nat} (h : j < Cs.length) : overL (Cs.take (j + 1)) = over (overL (Cs.take j)) (Cs.getD j (fun _ => none)) := by
  have e : Cs.getD j (fun _ => none) = Cs[j] := by simp [h]
  rw [List.take_succ_eq_append_getElem h, overL_snoc, e]
theorem Card.overL_le {Cs : List (Int → Option (List UInt8))} {ks : List Nat} (h : ks.length = Cs.length) (hc : ∀ j, j < Cs.length → Card (Cs.getD j (fun _ => none)) (ks.getD j 0)) : ∀ j, j ≤ Cs.length → ∃ k, k ≤ (ks.take j).sum ∧ Card (overL (Cs.take j)) k
  | 0, _ => ⟨0, by simp, Card.empty⟩
  | j + 1, hj => by
    obtain ⟨k, hk, hck⟩ := Card.overL_le h hc j (by omega)
    obtain ⟨k2, hk2, hck2⟩ := hck.over (hc j (by omega))
    refine ⟨k2, ?_, by rw [overL_take Cs (by omega)]; exact hck2⟩
    rw [sum_take ks j (by omega)]
    omega
/-- What a failed end leaves of a store. -/
structure Failed (W : World) (s p : Nat) (all last : Int) (W' : World) : Prop where
  box : StoreBox W' s p W.heap.size (.slice none 0 0) all last true
  map : IMap W' W.heap.size (fun _ => none)
  fr : Fr [s] W W'
theorem store_box5 {W : World} {s p u : Nat} {wv : Value} {all last : Int} {gone : Bool} (h : StoreBox W s p u wv all last gone) (x : Bool) : StoreBox (W.setCell ⟨s, 5, none⟩ (.bool x)) s p u wv all last x := by
  have := box_set h 5 (.bool x)
  simpa [StoreBox] using this
theorem store_box1 {W : World} {s p u : Nat} {wv : Value} {all last : Int} {gone : Bool} (h : StoreBox W s p u wv all last gone) (x : Nat) : StoreBox (W.setCell ⟨s, 1, none⟩ (.map (some x))) s p x wv all last gone := by
  have := box_set h 1 (.map (some x))
  simpa [StoreBox] using this
theorem store_box2 {W : World} {s p u : Nat} {wv : Value} {all last : Int} {gone : Bool} (h : StoreBox W s p u wv all last gone) (x : Value) : StoreBox (W.setCell ⟨s, 2, none⟩ x) s p u x all last gone := by
  have := box_set h 2 x
  simpa [StoreBox] using this
theorem store_box4 {W : World} {s p u : Nat} {wv : Value} {all last : Int} {gone : Bool} (h : StoreBox W s p u wv all last gone) (x : Int) : StoreBox (W.setCell ⟨s, 4, none⟩ (.int .i64 x)) s p u wv all x gone := by
  have := box_set h 4 (.int .i64 x)
  simpa [StoreBox] using this
theorem store_alloc {W : World} {s p u : Nat} {wv : Value} {all last : Int} {gone : Bool} (h : StoreBox W s p u wv all last gone) (o : Obj) : StoreBox (W.alloc o) s p u wv all last gone := ((Fr.refl [] W).alloc o).keep h (by simp)
theorem failed_of {W : World} {s p u : Nat} {wv : Value} {all last : Int} {gone : Bool} (h : StoreBox W s p u wv all last gone) :
    Failed W s p all last ((((W.alloc (.map #[] 0)).setCell ⟨s, 5, none⟩ (.bool true)).setCell ⟨s, 1, none⟩ (.map (some W.heap.size))).setCell ⟨s, 2, none⟩ (.slice none 0 0)) := by
  have hlt := lt_of_heap h
  have hm : IMap (W.alloc (.map #[] 0)) W.heap.size (fun _ => none) := ⟨#[], 0, heap_alloc_new W _, Holds.empty 0⟩
  have hf : Fr [s] (W.alloc (.map #[] 0)) ((((W.alloc (.map #[] 0)).setCell ⟨s, 5, none⟩ (.bool true)).setCell ⟨s, 1, none⟩ (.map (some W.heap.size))).setCell ⟨s, 2, none⟩ (.slice none 0 0)) :=
    (((Fr.refl [s] _).setCell (.inl (by simp)) _).setCell (.inl (by simp)) _).setCell (.inl (by simp)) _
  exact ⟨store_box2 (store_box1 (store_box5 (store_alloc h _) true) W.heap.size) _, hm.keep (hf.block _ hm.lt (by simp; omega)), ((Fr.refl [s] W).alloc _).trans hf⟩
set_option maxHeartbeats 1000000 in
theorem settle_none (w : World) (s p u : Nat) (all last : Int) (gone : Bool) (ad : Option Addr) (cap : Nat) (hs : StoreBox w s p u (.slice ad 0 cap) all last gone) :
    Calls Try.prog 42 #[.pointer (some ⟨s, 0, none⟩)] w fun e w' => e = .returned (.int .i64 0) ∧ w = w' := by
  have hc := box_cell hs
  clear hs
  go_enter Try.func42, Try.ntmps42
  go_wp2_with fail
  go_step3
  go_wp2_with fail
  rw [Exit.noGoto_ret]
  go_ret
  exact ⟨rfl, rfl⟩
/-- An end: the log, the head, the way home. -/
def Dv.settle (v : Dv) (C : Int → Option (List UInt8)) (ks : List Int) (all last : Int) : Int × Dv × Int :=
  if (v.log C ks).1 = 0 then
    (if ((v.log C ks).2.head ks.length).1 = 0 then
      ((((v.log C ks).2.head ks.length).2.home C ks).1, (((v.log C ks).2.head ks.length).2.home C ks).2, all)
    else (((v.log C ks).2.head ks.length).1, ((v.log C ks).2.head ks.length).2, last))
  else ((v.log C ks).1, (v.log C ks).2, last)
end Go.Proofs.Ytoifpbifipgpkaa
