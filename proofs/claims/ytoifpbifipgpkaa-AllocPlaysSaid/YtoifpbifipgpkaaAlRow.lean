/-
  alloc: how a list of pairs of ints that comes in reads.
-/
import Derived.Test.YtoifpbifipgpkaaWalRow
import Derived.Deep.Slices
namespace Go.Proofs.Ytoifpbifipgpkaa
open Go.ChangeShapes Go.WideShapes Go.ChangeAt Go.RowKit Go.MapKept
/-- A slice of pairs. -/
def PairsAt (w : World) (a : Option Addr) (len : Nat) (ps : Nat → Int × Int) : Prop :=
  len ≤ 9223372036854775807 ∧ (0 < len → ∃ b o, a = some ⟨b, o, none⟩ ∧ ∀ k, k < len → w.cell? ⟨b, o + k * 2, none⟩ = some (.int .i64 (ps k).1) ∧ w.cell? ⟨b, o + k * 2 + 1, none⟩ = some (.int .i64 (ps k).2) ∧ (-9223372036854775808 ≤ (ps k).2 ∧ (ps k).2 ≤ 9223372036854775807))
theorem PairsAt.keep {w w' : World} {a : Option Addr} {len : Nat} {ps : Nat → Int × Int} (h : PairsAt w a len ps) (hf : Fr [] w w') : PairsAt w' a len ps :=
  ⟨h.1, fun hl => by
    obtain ⟨b, o, rfl, hc⟩ := h.2 hl
    refine ⟨b, o, rfl, fun k hk => ?_⟩
    obtain ⟨h1, h2, h3⟩ := hc k hk
    refine ⟨?_, ?_, h3⟩
    · rw [World.cell?_of_block (w := w) (hf.block b (World.block_lt_of_cell? _ _ h1) (by simp))]; exact h1
    · rw [World.cell?_of_block (w := w) (hf.block b (World.block_lt_of_cell? _ _ h2) (by simp))]; exact h2⟩
end Go.Proofs.Ytoifpbifipgpkaa
namespace Go.Proofs.Ytoifpbifipgpkaa.row
open Go.ChangeShapes Go.WideShapes Go.ChangeAt Go.RowKit Go.MapKept
section
variable {H : Type} {enc : TypeId × Value → H}
theorem wf_int {z : Int} (h : (Lit.int .i64 z).wf = true) : -9223372036854775808 ≤ z ∧ z ≤ 9223372036854775807 := by
  simp [Lit.wf, IntKind.min, IntKind.max, IntKind.bits, IntKind.signed] at h
  omega
set_option maxRecDepth 100000 in
theorem pair_open {W : World} {n : Nat} {cs : List Value} {x : DataW H × List MemPlace} (hl : cs.length = 2) (h : DataW.trod enc Try.prog W 0 (fun _ => true) true n 72 cs = some x) :
    ∃ p : Int × Int, cs = [.int .i64 p.1, .int .i64 p.2] ∧ (-9223372036854775808 ≤ p.2 ∧ p.2 ≤ 9223372036854775807) := by
  obtain ⟨xs, m, _, _, _, hxl, hf⟩ := DataW.trod_array Try.underlying72 h
  have ci : Try.prog.cellsOf 3 = 1 := by kernel_rfl
  match xs, hxl, cs, hl with
  | [y0, y1], _, [v0, v1], _ =>
    have g0 := hf 0 (by omega)
    have g1 := hf 1 (by omega)
    simp [ci] at g0 g1
    obtain ⟨z0, e0, _, _⟩ := DataW.trod_int Try.underlying3 g0
    obtain ⟨z1, e1, _, w1⟩ := DataW.trod_int Try.underlying3 g1
    simp at e0 e1
    subst e0 e1
    exact ⟨(z0, z1), rfl, wf_int w1⟩
theorem add_both (a : Addr) (i j : Nat) : (a.add i).add j = a.add (i + j) := by
  unfold Addr.add
  by_cases hi : i = 0 <;> by_cases hj : j = 0 <;> simp [hi, hj, Nat.add_assoc]
set_option maxRecDepth 100000 in
/-- A slice of pairs that came in. -/
theorem arg_pl {W : World} {r : Reach} {b0 : Nat} {v : Value} {d : DataW H} {p : List MemPlace} (hv : Value.okWide Try.prog W r b0 70 v) (h : DataW.Trod enc Try.prog W 0 (fun _ => true) true 70 v d p) :
    ∃ (a : Option Addr) (len cap : Nat) (ps : Nat → Int × Int), v = .slice a len cap ∧ PairsAt W a len ps := by
  obtain ⟨a, len, cap, rfl⟩ := okWide_slice Try.underlying70 hv
  obtain ⟨fuel, hf⟩ := h
  have hf' : DataW.trod enc Try.prog W 0 (fun _ => true) true fuel 70 [.slice a len cap] = some (d, p) := by simpa [Value.cells] using hf
  rcases Go.Deep.open_slice Try.underlying70 hf' with ⟨hcs, _⟩ | ⟨x, l, c, m, n, D, Pl, hcs, _, hl, hm, hmm, _, hx⟩
  · simp at hcs
    obtain ⟨rfl, rfl, rfl⟩ := hcs
    exact ⟨none, 0, 0, fun _ => (0, 0), rfl, by omega, fun h => by omega⟩
  · simp at hcs
    obtain ⟨rfl, rfl, rfl⟩ := hcs
    have hm' : m = cap := by simpa using hmm
    subst hm'
    have c2 : Try.prog.cellsOf 72 = 2 := by kernel_rfl
    have each : ∀ i, ∃ v : Int × Int, i < len → (∀ j u, [Value.int .i64 v.1, .int .i64 v.2][j]? = some u → W.cell? (x.add (i * 2 + j)) = some u) ∧ (-9223372036854775808 ≤ v.2 ∧ v.2 ≤ 9223372036854775807) := fun i => by
      by_cases hi : i < len
      · obtain ⟨cs', h1, h2⟩ := hx i (by omega)
        rw [c2] at h1
        obtain ⟨_, hlen, hcell⟩ := World.cells?_some h1
        obtain ⟨v, hv, hr⟩ := pair_open (by simpa using hlen) h2
        refine ⟨v, fun _ => ⟨fun j u hu => ?_, hr⟩⟩
        have hj : j < 2 := (List.getElem?_eq_some_iff.1 hu).1
        have := hcell j hj
        rw [add_both, hv] at this
        rw [this, hu]
      · exact ⟨(0, 0), fun h => absurd h hi⟩
    obtain ⟨ps, hps⟩ := Classical.axiomOfChoice each
    refine ⟨some x, len, _, ps, rfl, by unfold maxLen at hm; omega, fun h0 => ?_⟩
    have hc0 := (hps 0 h0).1 0 _ rfl
    obtain ⟨b, off, spot⟩ := x
    have hspot : spot = none := by simpa [Addr.add] using World.cell?_spot hc0
    subst hspot
    refine ⟨b, off, rfl, fun k hk => ?_⟩
    obtain ⟨h1, h2⟩ := hps k hk
    have hp : ∀ j u, [Value.int .i64 (ps k).1, .int .i64 (ps k).2][j]? = some u → W.cell? ⟨b, off + k * 2 + j, none⟩ = some u := fun j u hu => by
      have := h1 j u hu
      rw [Go.WideShapes.add_plain] at this
      rw [Nat.add_assoc]; exact this
    exact ⟨hp 0 _ rfl, hp 1 _ rfl, h2⟩
end
end Go.Proofs.Ytoifpbifipgpkaa.row
