/-
  wal: how a list of bools that comes in reads.
-/
import Derived.Test.YtnnppihkgfohdaaWalRow
namespace Go.Proofs.Ytnnppihkgfohdaa
open Go.ChangeShapes Go.WideShapes Go.ChangeAt Go.RowKit Go.MapKept
/-- A slice of bools. -/
structure RdT (w : World) (ad : Option Addr) (len : Nat) : Prop where
  nil : ad = none → len = 0
  at_ : ∀ a, ad = some a → 0 < len → ∃ b off, a = ⟨b, off, none⟩ ∧ ∀ j, j < len → ∃ x, w.cell? ⟨b, off + j, none⟩ = some (.bool x)
theorem RdT.keep {w w' : World} {ad : Option Addr} {len : Nat} (h : RdT w ad len) (hf : Fr [] w w') : RdT w' ad len :=
  ⟨h.nil, fun a ha hl => by
    obtain ⟨b, off, rfl, hc⟩ := h.at_ a ha hl
    refine ⟨b, off, rfl, fun j hj => ?_⟩
    obtain ⟨x, hx⟩ := hc j hj
    exact ⟨x, by rw [World.cell?_of_block (w := w) (hf.block b (World.block_lt_of_cell? _ _ hx) (by simp))]; exact hx⟩⟩
end Go.Proofs.Ytnnppihkgfohdaa
namespace Go.Proofs.Ytnnppihkgfohdaa.row
open Go.ChangeShapes Go.WideShapes Go.ChangeAt Go.RowKit Go.MapKept
section
variable {H : Type} {enc : TypeId × Value → H}
set_option maxRecDepth 100000 in
theorem arg_tl {W : World} {r : Reach} {b0 : Nat} {v : Value} {d : DataW H} {p : List MemPlace} (hv : Value.okWide Try.prog W r b0 22 v) (h : DataW.Trod enc Try.prog W 0 (fun _ => true) true 22 v d p) :
    ∃ (a : Option Addr) (len cap : Nat), v = .slice a len cap ∧ RdT W a len ∧ len ≤ maxLen := by
  obtain ⟨a, len, cap, rfl⟩ := okWide_slice Try.underlying22 hv
  obtain ⟨fuel, hf⟩ := h
  have hf' : DataW.trod enc Try.prog W 0 (fun _ => true) true fuel 22 [.slice a len cap] = some (d, p) := by simpa [Value.cells] using hf
  rcases DataW.trod_slice Try.underlying22 hf' with ⟨hcs, _⟩ | ⟨x, l, c, elems, rest, n, _, hcs, _, _, hl, hm, hlen, hel, _, _⟩
  · simp at hcs
    obtain ⟨rfl, rfl, rfl⟩ := hcs
    exact ⟨none, 0, 0, rfl, ⟨fun _ => rfl, fun a ha => by cases ha⟩, by decide⟩
  · simp at hcs
    obtain ⟨rfl, rfl, rfl⟩ := hcs
    have hc1 : Try.prog.cellsOf 4 = 1 := by kernel_rfl
    have each : ∀ i, i < len → ∃ y, W.cell? (x.add i) = some (.bool y) := fun i hi => by
      have h1 := hel i hi
      have hi' : i < elems.length := by omega
      rw [hc1, Nat.mul_one, List.getElem?_eq_getElem hi', Option.bind_eq_some_iff] at h1
      obtain ⟨cs', hcs, hy⟩ := h1
      obtain ⟨y, rfl, _⟩ := DataW.trod_bool Try.underlying4 hy
      exact ⟨y, cell_of_cells?_one hcs⟩
    refine ⟨some x, len, cap, rfl, ⟨fun h => (by cases h), fun a ha h0 => ?_⟩, by omega⟩
    cases ha
    obtain ⟨b, off, spot⟩ := x
    obtain ⟨y0, hy0⟩ := each 0 h0
    have hspot : spot = none := by simpa [Addr.add] using World.cell?_spot hy0
    subst hspot
    refine ⟨b, off, rfl, fun j hj => ?_⟩
    obtain ⟨y, hy⟩ := each j hj
    exact ⟨y, by rw [← Go.WideShapes.add_plain]; exact hy⟩
end
end Go.Proofs.Ytnnppihkgfohdaa.row
