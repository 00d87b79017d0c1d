/-
  Lists that come in: nil has no capacity.
-/
import Derived.Test.YtdbhppfpalpfmaaLabRow
namespace Go.Proofs.Ytdbhppfpalpfmaa.row
open Go.ChangeShapes Go.WideShapes Go.ChangeAt Go.RowKit Go.MapKept
section
variable {H : Type} {enc : TypeId × Value → H}
theorem nil_cap {W : World} {fuel : Nat} {a : Option Addr} {n cap : Nat} {y : DataW H × List MemPlace} (hf : DataW.trod enc Try.prog W 0 (fun _ => true) true fuel 22 [.slice a n cap] = some y) : a = none → cap = 0 := by
  intro ha
  subst ha
  rcases open_ints Try.underlying22 Try.underlying3 (by kernel_rfl) hf with ⟨hcs, _⟩ | ⟨x, l, c, zs, hcs, _⟩
  · simp at hcs; exact hcs.2
  · simp at hcs
set_option maxRecDepth 100000 in
theorem arg_il2 {W : World} {r : Reach} {b0 : Nat} {v : Value} {d : DataW H} {p : List MemPlace} (hv : Value.okWide Try.prog W r b0 22 v) (h : DataW.Trod enc Try.prog W 0 (fun _ => true) true 22 v d p) (hw : ∀ n ∈ d.weights Try.prog 22, n ≤ reachBytes) :
    ∃ (a : Option Addr) (cap : Nat) (zs : List Int), v = .slice a zs.length cap ∧ RdI W a cap zs ∧ (a = none → cap = 0) := by
  obtain ⟨a, cap, zs, rfl, hr⟩ := arg_il hv h hw
  obtain ⟨fuel, hf⟩ := h
  exact ⟨a, cap, zs, rfl, hr, nil_cap (y := (d, p)) (by simpa [Value.cells] using hf)⟩
set_option maxRecDepth 100000 in
theorem arg_two2 {W : World} {r : Reach} {b0 : Nat} {t : TypeId} {f0 f1 : Field} {v : Value} {d : DataW H} {p : List MemPlace} (hs : Try.prog.underlying t = some (.struct #[f0, f1])) (e0 : f0.type = 22) (e1 : f1.type = 22) (hone : Go.Deep.oneCellFields Try.prog #[f0, f1] = true) (hC : Try.prog.cellsOf t = 2)
    (hv : Value.okWide Try.prog W r b0 t v) (h : DataW.Trod enc Try.prog W 0 (fun _ => true) true t v d p) (hw : ∀ n ∈ d.weights Try.prog t, n ≤ reachBytes) :
    ∃ (a1 a2 : Option Addr) (c1 c2 : Nat) (s i : List Int), v = .agg #[.slice a1 s.length c1, .slice a2 i.length c2] ∧ RdI W a1 c1 s ∧ RdI W a2 c2 i ∧ (a1 = none → c1 = 0) ∧ (a2 = none → c2 = 0) := by
  obtain ⟨v0, v1, y0, y1, n, rfl, rfl, rfl, h0, h1⟩ := Go.Joins.open_agg2 hs hone hC hv h
  rw [e0] at h0
  rw [e1] at h1
  have w0 : ∀ n ∈ y0.1.weights Try.prog 22, n ≤ reachBytes := fun n hn => hw n (by simp [DataW.weights, hs, DataW.weightsEach, e0, e1, hn])
  have w1 : ∀ n ∈ y1.1.weights Try.prog 22, n ≤ reachBytes := fun n hn => hw n (by simp [DataW.weights, hs, DataW.weightsEach, e0, e1, hn])
  obtain ⟨a1, c1, s, rfl, r1⟩ := open_il h0 w0
  obtain ⟨a2, c2, i, rfl, r2⟩ := open_il h1 w1
  exact ⟨a1, a2, c1, c2, s, i, rfl, r1, r2, nil_cap h0, nil_cap h1⟩
set_option maxRecDepth 100000 in
theorem arg_label2 {W : World} {r : Reach} {b0 : Nat} {v : Value} {d : DataW H} {p : List MemPlace} (hv : Value.okWide Try.prog W r b0 26 v) (h : DataW.Trod enc Try.prog W 0 (fun _ => true) true 26 v d p) (hw : ∀ n ∈ d.weights Try.prog 26, n ≤ reachBytes) :
    ∃ (a1 a2 : Option Addr) (c1 c2 : Nat) (s i : List Int), v = .agg #[.slice a1 s.length c1, .slice a2 i.length c2] ∧ RdI W a1 c1 s ∧ RdI W a2 c2 i ∧ (a1 = none → c1 = 0) ∧ (a2 = none → c2 = 0) :=
  arg_two2 Try.underlying26 rfl rfl (by kernel_rfl) (by kernel_rfl) hv h hw
set_option maxRecDepth 100000 in
theorem arg_caps2 {W : World} {r : Reach} {b0 : Nat} {v : Value} {d : DataW H} {p : List MemPlace} (hv : Value.okWide Try.prog W r b0 35 v) (h : DataW.Trod enc Try.prog W 0 (fun _ => true) true 35 v d p) (hw : ∀ n ∈ d.weights Try.prog 35, n ≤ reachBytes) :
    ∃ (a1 a2 : Option Addr) (c1 c2 : Nat) (s i : List Int), v = .agg #[.slice a1 s.length c1, .slice a2 i.length c2] ∧ RdI W a1 c1 s ∧ RdI W a2 c2 i ∧ (a1 = none → c1 = 0) ∧ (a2 = none → c2 = 0) :=
  arg_two2 Try.underlying35 rfl rfl (by kernel_rfl) (by kernel_rfl) hv h hw
end
end Go.Proofs.Ytdbhppfpalpfmaa.row
