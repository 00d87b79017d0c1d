/-
  wal: a change's sectors, rising.
-/
import Derived.Test.YtoifpbifipgpkaaDevWait
import Derived.Test.YtoifpbifipgpkaaWal3
namespace Go.Proofs.Ytoifpbifipgpkaa
open Go.RowKit Go.MapKept Go.Maps Go.Shelf
open Go.Sort
set_option maxRecDepth 100000 in
set_option maxHeartbeats 1000000 in
theorem inOrder_calls (w : World) (m n : Nat) (wt : Int → Option (List UInt8)) (hm : IMap w m (fun i => (wt i).map secV)) (hdom : ∀ i s, wt i = some s → 0 ≤ i ∧ i < n) (hnb : n ≤ 8192) :
    Calls Try.prog 69 #[.map (some m)] w (WaitOK w wt) := by
  obtain ⟨es, clk, hb, hh⟩ := hm
  obtain ⟨hsz, hfit, hrg⟩ := hh.fit Try.underlying3 n hnb (fun i v hv => by
    cases hw : wt i with
    | none => simp [hw] at hv
    | some s => have := hdom i s hw; omega)
  obtain ⟨D0, hD⟩ : ∃ D0 : DataW Unit, D0 = .map ((es.toList.map (Go.WideElems.rg Try.prog 3 anyR)).foldr DataW.insert []) := ⟨_, rfl⟩
  have hsize : Maps.size D0 = es.size := by rw [hD]; exact length_read es
  have hmem : ∀ x, x ∈ intKeys D0 ↔ ∃ s, wt x = some s := by
    intro x
    rw [hD]
    simp only [intKeys, List.mem_map]
    constructor
    · rintro ⟨y, hy, rfl⟩
      rw [(Go.WideShapes.sorted_perm _).mem_iff, List.mem_map] at hy
      obtain ⟨e, he, rfl⟩ := hy
      rw [hrg e he]
      have h1 := hh.to e he
      cases hw : wt (kI e.key) with
      | none => simp [hw] at h1
      | some s => exact ⟨s, hw⟩
    · rintro ⟨s, hs⟩
      obtain ⟨e, he, hk, _⟩ := hh.from_ x (secV s) (by simp [hs])
      refine ⟨Go.WideElems.rg Try.prog 3 anyR e, ?_, by rw [hrg e he, ← hk]; rfl⟩
      rw [(Go.WideShapes.sorted_perm _).mem_iff, List.mem_map]
      exact ⟨e, he, rfl⟩
  have hnd : (intKeys D0).Nodup := by
    rw [hD]
    have hp : (intKeys (.map ((es.toList.map (Go.WideElems.rg Try.prog 3 anyR)).foldr DataW.insert []) : DataW Unit)).Perm (es.toList.map fun x => kI x.key) := by
      simp only [intKeys]
      refine ((Go.WideShapes.sorted_perm _).map _).trans ?_
      rw [List.map_map]
      exact List.Perm.of_eq (List.map_congr_left fun x hx => by simp only [Function.comp]; rw [hrg x hx]; rfl)
    exact hp.nodup_iff.2 hh.keysNodup
  have hown : w.ownsMap Try.prog 3 anyR m n D0 := ⟨es, clk, hb, hfit, hsz, hD⟩
  have hml := lt_of_heap hb
  have hmax : Maps.size D0 ≤ maxLen := by rw [hsize]; unfold maxLen; omega
  have hbytes : Maps.size D0 * 8 ≤ 140737488355328 := by rw [hsize]; omega
  have hseq : SeqGives Fence.wide 2 Try.prog 80 #[.pointer (some ⟨w.heap.size, 0, none⟩)] encZ (fun ss => ss.Perm (intKeys D0)) (Maps.size D0) (w.alloc (.cells #[.map (some m)] 85)) :=
    AnyZI.keys_gives (ρ := Try.keysW_ren) { Try.keysW with } Fence.wide _ trivial rfl (by omega) w.heap.size m n D0 _ (by simp) (by simp) ⟨es, clk, (Below.heap_alloc _ _ m hml).trans hb, hfit, hsz, hD⟩
  have cK : ∀ mb W, CallsIn Fence.wide 5 Try.prog 75 #[.map mb] W fun e w' => e = .returned (.func (.func 80) #[] #[.pointer (some ⟨W.heap.size, 0, none⟩)]) ∧ w' = W.alloc (.cells #[.map mb] 85) := fun mb W => AnyZI.keys_in Try.keysW Fence.wide 5 trivial rfl mb W
  have cS := AnyZI.sorted_in Try.sortedA Fence.wide 5 trivial trivial trivial trivial rfl (by omega) (Try.sortsA _) (enters_of Try.func78 (by kernel_rfl) rfl) 80 #[.pointer (some ⟨w.heap.size, 0, none⟩)] trivial (enters_of Try.func80 (by kernel_rfl) rfl) _ _ hmax hbytes _ hseq
  change CallsIn _ _ Try.prog 73 _ _ _ at cS
  have hfin : ∀ (v : Value) (ss : List Int) (w' : World), ss.Perm (intKeys D0) → w'.ownsRow (w.alloc (.cells #[.map (some m)] 85)).heap.size 3 1 v ss.length ((ss.mergeSort (fun x y => decide (x ≤ y))).map encZ) → (v = .slice none 0 0 ↔ ss = []) → Below (w.alloc (.cells #[.map (some m)] 85)).heap.size (w.alloc (.cells #[.map (some m)] 85)) w' → WaitOK w wt (.returned v) w' := by
    intro v ss w' hS hrow hnil hbl
    have hpm := List.mergeSort_perm ss (fun x y => decide (x ≤ y))
    have hlen : (ss.mergeSort (fun x y => decide (x ≤ y))).length = ss.length := hpm.length_eq
    refine ⟨v, ss.mergeSort (fun x y => decide (x ≤ y)), rfl, fun x => by rw [hpm.mem_iff, hS.mem_iff, hmem], (hpm.trans hS).nodup_iff.2 hnd, ?_, ?_, ?_, ?_⟩
    · have := List.pairwise_mergeSort (le := fun x y : Int => decide (x ≤ y)) (fun a b c h1 h2 => by simp at *; omega) (fun a b => by simp; omega) ss
      exact this.imp (fun h => by simpa using h)
    · rw [hlen]; exact ownsRow_base hrow (by simp)
    · rw [hnil]
      constructor
      · intro h; subst h; exact List.eq_nil_of_length_eq_zero hlen
      · intro h; rw [h] at hlen; exact List.eq_nil_of_length_eq_zero hlen.symm
    · have hb2 : Below w.heap.size w w' := ((Below.refl _ w).alloc (Nat.le_refl _) _).trans (hbl.mono (by simp))
      exact ⟨hb2.os, hb2.tape, hb2.output, hb2.size, fun k hk _ => hb2.block k hk⟩
  refine (callsIn_wide (n := 6)).1 ?_
  have hfK : Fence.wide.fn 75 := trivial
  have hfS : Fence.wide.fn 73 := trivial
  have HF := Lib.hid hfin
  clear hfin hnd hmem hsize hD hrg hfit hsz hown hseq hh hb hdom
  refine callsIn_of_wp Try.func69 rfl trivial ?_ rfl
  simp only [Try.ntmps69, List.size_toArray, List.length_cons, List.length_nil, Nat.reduceAdd, Nat.reduceSub, Array.replicate_succ, Array.replicate_zero, List.push_toArray, List.append_toArray, List.nil_append, List.cons_append]
  gi_wp2_with (first
    | (gi_at_call 75; refine (cK _ _).mono ?_; rintro e w' ⟨rfl, rfl⟩)
    | (gi_at_call 73; refine cS.mono ?_; rintro e w' ⟨v, ss, rfl, hS, hrow, hnil, hbl⟩))
  go_ret
  exact HF.out v ss _ hS hrow hnil hbl
end Go.Proofs.Ytoifpbifipgpkaa
