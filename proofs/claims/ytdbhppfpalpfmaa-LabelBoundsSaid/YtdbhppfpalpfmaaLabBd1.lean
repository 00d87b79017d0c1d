/-
  Numbers brought into their bounds; two elements of a slice put in each other's place.
-/
import Derived.Test.YtdbhppfpalpfmaaLabBd0
import Derived.Test.YtdbhppfpalpfmaaMask
namespace Go.Proofs.Ytdbhppfpalpfmaa
open Go.RowKit Go.MapKept
theorem mod_in (x : Int) (n : Nat) (h0 : 0 < n) (h1 : n ≤ 40) : ∃ j : Nat, j < n ∧ (wrap64 (x.tmod (n : Int) + (n : Int))).tmod (n : Int) = (j : Int) := by
  have hp : (0 : Int) < (n : Int) := by omega
  have a1 := Int.tmod_lt_of_pos x hp
  have a2 := Int.lt_tmod_of_pos x hp
  have e : wrap64 (x.tmod (n : Int) + (n : Int)) = x.tmod (n : Int) + (n : Int) := by
    generalize x.tmod (n : Int) = y at a1 a2 ⊢
    simp only [wrap64]
    omega
  rw [e]
  have b1 := Int.tmod_lt_of_pos (x.tmod (n : Int) + (n : Int)) hp
  have b2 := Int.tmod_nonneg (n : Int) (a := x.tmod (n : Int) + (n : Int)) (by omega)
  exact ⟨((x.tmod (n : Int) + (n : Int)).tmod (n : Int)).toNat, by omega, by omega⟩
theorem from_in (y : Int) : ∃ f : Int, 0 < f ∧ f ≤ 16777216 ∧ wrap64 (bits BinOp.and IntKind.i64 y 16777215 + 1) = f := by
  have h := mask64 y 24 (by decide)
  have e1 : ((2 ^ 24 - 1 : Nat) : Int) = 16777215 := by decide
  have e2 : ((2 ^ 24 : Nat) : Int) = 16777216 := by decide
  rw [e1, e2] at h
  rw [h]
  refine ⟨y % 16777216 + 1, by omega, by omega, ?_⟩
  simp only [wrap64]
  omega
theorem fr_none {w w' : World} (hg : w.grownBy w' none) : Fr [] w w' := Fr.of_below ((Below.refl w.heap.size w).grown hg (Nat.le_refl _) (fun j hj => by cases hj))
theorem below_set {B g j : Nat} {w0 w : World} (h : Below B w0 w) (hg : B ≤ g) (v : Value) : Below B w0 (w.setCell ⟨g, j, none⟩ v) := h.setCell (p := ⟨g, j, none⟩) hg v
theorem swap_rdI {w : World} {f : Int} {g n cap : Nat} (h2 : 2 ≤ n) (hn : n ≤ 1000) (hc : n ≤ cap) (hm : cap ≤ maxLen) (h : ∀ j, j < n → w.cell? ⟨g, j, none⟩ = some (.int .i64 ((runZ f n).getD j 0))) :
    RdI ((w.setCell ⟨g, 0, none⟩ (.int .i64 ((runZ f n).getD (n - 1) 0))).setCell ⟨g, n - 1, none⟩ (.int .i64 ((runZ f n).getD 0 0))) (some ⟨g, 0, none⟩) cap (swZ f n) := by
  refine ⟨by rw [swZ_len]; exact hc, by unfold maxLen at hm; omega, by rw [swZ_len]; omega, (fun e => by cases e), fun a ha _ => ?_⟩
  cases ha
  refine ⟨g, 0, rfl, fun j hj => ?_⟩
  rw [swZ_len] at hj
  rw [Nat.zero_add]
  have hl : n - 1 < (runZ f n).length := by rw [runZ_len]; omega
  have hl0 : 0 < (runZ f n).length := by rw [runZ_len]; omega
  have k1 : ((w.setCell ⟨g, 0, none⟩ (.int .i64 ((runZ f n).getD (n - 1) 0))).cell? ⟨g, n - 1, none⟩).isSome = true := by
    rw [World.cell?_setCell_other _ ⟨g, 0, none⟩ ⟨g, n - 1, none⟩ _ (by simp), h _ (by omega)]; rfl
  by_cases e1 : j = n - 1
  · subst e1
    rw [World.cell?_setCell_same' _ _ _ k1]
    simp only [swZ, List.getD_eq_getElem?_getD]
    rw [List.getElem?_set_self (by simpa using hl)]
    rfl
  · rw [World.cell?_setCell_other _ ⟨g, n - 1, none⟩ ⟨g, j, none⟩ _ (by simp)]
    by_cases e0 : j = 0
    · subst e0
      rw [World.cell?_setCell_same' _ _ _ (by rw [h 0 (by omega)]; rfl)]
      congr 2
      simp only [swZ, List.getD_eq_getElem?_getD]
      rw [List.getElem?_set_ne (by omega), List.getElem?_set_self hl0]
      rfl
    · rw [World.cell?_setCell_other _ ⟨g, 0, none⟩ ⟨g, j, none⟩ _ (by simp), h j hj]
      congr 2
      simp only [swZ, List.getD_eq_getElem?_getD]
      rw [List.getElem?_set_ne (by omega), List.getElem?_set_ne (by omega)]
end Go.Proofs.Ytdbhppfpalpfmaa
