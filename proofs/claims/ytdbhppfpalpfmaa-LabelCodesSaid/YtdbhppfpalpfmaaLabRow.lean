/-
  Lists and labels that come in: how they read.
-/
import Derived.Test.YtdbhppfpalpfmaaLabS
import Derived.Test.YtdbhppfpalpfmaaRows
import Derived.ProofKit
import Derived.OpenShut
import Derived.ChangeOld
import Derived.Below
import Derived.SizedLaws
import Derived.Lib.SmallJoins
namespace Go.Proofs.Ytdbhppfpalpfmaa.row
open Go.ChangeShapes Go.WideShapes Go.ChangeAt Go.RowKit Go.MapKept
theorem own : ownKnob Try.prog.godebug = none := by kernel_rfl
theorem laidOut : laidOutB Try.prog = true := by kernel_rfl
section
variable {H : Type} {enc : TypeId × Value → H}
theorem open_il {W : World} {fuel : Nat} {v : Value} {y : DataW H × List MemPlace} (hf : DataW.trod enc Try.prog W 0 (fun _ => true) true fuel 22 [v] = some y) (hw : ∀ n ∈ y.1.weights Try.prog 22, n ≤ reachBytes) :
    ∃ (a : Option Addr) (cap : Nat) (zs : List Int), v = .slice a zs.length cap ∧ RdI W a cap zs := by
  rcases open_ints Try.underlying22 Try.underlying3 (by kernel_rfl) hf with ⟨hcs, _⟩ | ⟨x, l, c, zs, hcs, _, hl, hm, hz, hx, hcell, hwz⟩
  · simp at hcs
    subst hcs
    exact ⟨none, 0, [], rfl, ⟨by simp, by omega, by simp, fun _ => rfl, fun a ha => by cases ha⟩⟩
  · simp at hcs
    subst hcs
    have hz' : zs.length = c := by simpa using hz
    have hlen : (zs.take l).length = l := by simp; omega
    have hb : l * 8 ≤ 140737488351232 := by
      subst hx
      have := hw (((lits (H := H) .i64 (zs.take l)).length + (lits (H := H) .i64 (zs.drop l)).length) * Try.prog.bytesOf 3) (by simp [DataW.weights, Try.underlying22])
      rw [show Try.prog.bytesOf 3 = 8 by kernel_rfl] at this
      unfold reachBytes at this
      simp [lits] at this
      omega
    refine ⟨some x, c, zs.take l, by rw [hlen], ⟨by rw [hlen]; exact hl, by unfold maxLen at hm; omega, by rw [hlen]; omega, (fun h => by cases h), fun a ha h0 => ?_⟩⟩
    cases ha
    rw [hlen] at h0
    obtain ⟨b, off, rfl, hcell'⟩ := ints_at hcell (by omega)
    refine ⟨b, off, rfl, fun j hj => ?_⟩
    rw [hlen] at hj
    rw [hcell' j (by omega)]
    simp [List.getD_eq_getElem?_getD, List.getElem?_take, hj]
theorem weights_mem {P : Program} {ts : List TypeId} {ds : List (DataW H)} (h : (DataW.weightsEach P ts ds).all (· ≤ reachBytes) = true) {j : Nat} {t : TypeId} {d : DataW H} (ht : ts[j]? = some t) (hd : ds[j]? = some d) : ∀ n ∈ d.weights P t, n ≤ reachBytes := fun n hn => by
  have := List.all_eq_true.1 h n (DataW.weights_mem_each ht hd n hn)
  simpa using this
set_option maxRecDepth 100000 in
/-- A slice of ints that came in. -/
theorem arg_il {W : World} {r : Reach} {b0 : Nat} {v : Value} {d : DataW H} {p : List MemPlace} (hv : Value.okWide Try.prog W r b0 22 v) (h : DataW.Trod enc Try.prog W 0 (fun _ => true) true 22 v d p) (hw : ∀ n ∈ d.weights Try.prog 22, n ≤ reachBytes) :
    ∃ (a : Option Addr) (cap : Nat) (zs : List Int), v = .slice a zs.length cap ∧ RdI W a cap zs := by
  obtain ⟨a, len, cap, rfl⟩ := okWide_slice Try.underlying22 hv
  obtain ⟨fuel, hf⟩ := h
  exact open_il (y := (d, p)) (by simpa [Value.cells] using hf) hw
set_option maxRecDepth 100000 in
/-- Two slices of ints in a struct that came in. -/
theorem arg_two {W : World} {r : Reach} {b0 : Nat} {t : TypeId} {f0 f1 : Field} {v : Value} {d : DataW H} {p : List MemPlace} (hs : Try.prog.underlying t = some (.struct #[f0, f1])) (e0 : f0.type = 22) (e1 : f1.type = 22) (hone : Go.Deep.oneCellFields Try.prog #[f0, f1] = true) (hC : Try.prog.cellsOf t = 2)
    (hv : Value.okWide Try.prog W r b0 t v) (h : DataW.Trod enc Try.prog W 0 (fun _ => true) true t v d p) (hw : ∀ n ∈ d.weights Try.prog t, n ≤ reachBytes) :
    ∃ (a1 a2 : Option Addr) (c1 c2 : Nat) (s i : List Int), v = .agg #[.slice a1 s.length c1, .slice a2 i.length c2] ∧ RdI W a1 c1 s ∧ RdI W a2 c2 i := by
  obtain ⟨v0, v1, y0, y1, n, rfl, rfl, rfl, h0, h1⟩ := Go.Joins.open_agg2 hs hone hC hv h
  rw [e0] at h0
  rw [e1] at h1
  have w0 : ∀ n ∈ y0.1.weights Try.prog 22, n ≤ reachBytes := fun n hn => hw n (by simp [DataW.weights, hs, DataW.weightsEach, e0, e1, hn])
  have w1 : ∀ n ∈ y1.1.weights Try.prog 22, n ≤ reachBytes := fun n hn => hw n (by simp [DataW.weights, hs, DataW.weightsEach, e0, e1, hn])
  obtain ⟨a1, c1, s, rfl, r1⟩ := open_il h0 w0
  obtain ⟨a2, c2, i, rfl, r2⟩ := open_il h1 w1
  exact ⟨a1, a2, c1, c2, s, i, rfl, r1, r2⟩
set_option maxRecDepth 100000 in
/-- A label that came in. -/
theorem arg_label {W : World} {r : Reach} {b0 : Nat} {v : Value} {d : DataW H} {p : List MemPlace} (hv : Value.okWide Try.prog W r b0 26 v) (h : DataW.Trod enc Try.prog W 0 (fun _ => true) true 26 v d p) (hw : ∀ n ∈ d.weights Try.prog 26, n ≤ reachBytes) :
    ∃ (a1 a2 : Option Addr) (c1 c2 : Nat) (s i : List Int), v = .agg #[.slice a1 s.length c1, .slice a2 i.length c2] ∧ RdI W a1 c1 s ∧ RdI W a2 c2 i :=
  arg_two Try.underlying26 rfl rfl (by kernel_rfl) (by kernel_rfl) hv h hw
set_option maxRecDepth 100000 in
/-- Capabilities that came in. -/
theorem arg_caps {W : World} {r : Reach} {b0 : Nat} {v : Value} {d : DataW H} {p : List MemPlace} (hv : Value.okWide Try.prog W r b0 35 v) (h : DataW.Trod enc Try.prog W 0 (fun _ => true) true 35 v d p) (hw : ∀ n ∈ d.weights Try.prog 35, n ≤ reachBytes) :
    ∃ (a1 a2 : Option Addr) (c1 c2 : Nat) (s i : List Int), v = .agg #[.slice a1 s.length c1, .slice a2 i.length c2] ∧ RdI W a1 c1 s ∧ RdI W a2 c2 i :=
  arg_two Try.underlying35 rfl rfl (by kernel_rfl) (by kernel_rfl) hv h hw
end
end Go.Proofs.Ytdbhppfpalpfmaa.row
