/-
  wal: how a script of calls that comes in reads.
-/
import Derived.Test.YtoifpbifipgpkaaWalRow
import Derived.Test.YtoifpbifipgpkaaDevCrash
import Derived.Deep.Slices
namespace Go.Proofs.Ytoifpbifipgpkaa
open Go.ChangeShapes Go.WideShapes Go.ChangeAt Go.RowKit Go.MapKept
/-- One call of the script. -/
structure OpW where
  kind : Int
  i : Int
  a : Int
  size : Int
  flip : Bool
  la : Option Addr
  ll : Nat
  lc : Nat
  lz : List Int
/-- It lies at offset o of block b. -/
structure OpAtW (w : World) (b o : Nat) (v : OpW) : Prop where
  c0 : w.cell? ⟨b, o, none⟩ = some (.int .i64 v.kind)
  c1 : w.cell? ⟨b, o + 1, none⟩ = some (.int .i64 v.i)
  c2 : w.cell? ⟨b, o + 2, none⟩ = some (.int .i64 v.a)
  c3 : w.cell? ⟨b, o + 3, none⟩ = some (.int .i64 v.size)
  c4 : w.cell? ⟨b, o + 4, none⟩ = some (.bool v.flip)
  c5 : w.cell? ⟨b, o + 5, none⟩ = some (.slice v.la v.ll v.lc)
  ints : IntsAt w v.la v.ll v.lz
  l63 : v.ll ≤ 9223372036854775807
  low : 0 < v.ll → ∀ x, v.la = some x → x.block < w.heap.size
theorem IntsAt.keep {w w' : World} {a : Option Addr} {len : Nat} {zs : List Int} (h : IntsAt w a len zs) (hf : Fr [] w w') : IntsAt w' a len zs :=
  ⟨h.1, fun h0 => by
    obtain ⟨b, o, rfl, hc⟩ := h.2 h0
    exact ⟨b, o, rfl, fun i hi => by rw [World.cell?_of_block (w := w) (hf.block b (World.block_lt_of_cell? _ _ (hc i hi)) (by simp))]; exact hc i hi⟩⟩
theorem cell_frW {w wr : World} (hf : Fr [] w wr) {b o : Nat} {v : Value} (h : w.cell? ⟨b, o, none⟩ = some v) : wr.cell? ⟨b, o, none⟩ = some v := by
  rw [World.cell?_of_block (w := w) (hf.block b (World.block_lt_of_cell? _ _ h) (by simp))]; exact h
theorem OpAtW.keep {w w' : World} {b o : Nat} {v : OpW} (h : OpAtW w b o v) (hf : Fr [] w w') : OpAtW w' b o v :=
  ⟨cell_frW hf h.c0, cell_frW hf h.c1, cell_frW hf h.c2, cell_frW hf h.c3, cell_frW hf h.c4, cell_frW hf h.c5, h.ints.keep hf, h.l63, fun h0 x hx => Nat.lt_of_lt_of_le (h.low h0 x hx) hf.size⟩
/-- A script that came in. -/
def OpsAt (w : World) (a : Option Addr) (len : Nat) (os : Nat → OpW) : Prop :=
  len ≤ 9223372036854775807 ∧ (0 < len → ∃ b o, a = some ⟨b, o, none⟩ ∧ ∀ k, k < len → OpAtW w b (o + k * 6) (os k))
theorem OpsAt.keep {w w' : World} {a : Option Addr} {len : Nat} {os : Nat → OpW} (h : OpsAt w a len os) (hf : Fr [] w w') : OpsAt w' a len os :=
  ⟨h.1, fun h0 => by
    obtain ⟨b, o, rfl, hc⟩ := h.2 h0
    exact ⟨b, o, rfl, fun k hk => (hc k hk).keep hf⟩⟩
end Go.Proofs.Ytoifpbifipgpkaa
namespace Go.Proofs.Ytoifpbifipgpkaa.row
open Go.ChangeShapes Go.WideShapes Go.ChangeAt Go.RowKit Go.MapKept
section
variable {H : Type} {enc : TypeId × Value → H}
set_option maxRecDepth 100000 in
theorem op_open {W : World} {n : Nat} {cs : List Value} {x : DataW H × List MemPlace} (hl : cs.length = 6) (h : DataW.trod enc Try.prog W 0 (fun _ => true) true n 51 cs = some x) :
    ∃ v : OpW, cs = [.int .i64 v.kind, .int .i64 v.i, .int .i64 v.a, .int .i64 v.size, .bool v.flip, .slice v.la v.ll v.lc] ∧ IntsAt W v.la v.ll v.lz ∧ v.ll ≤ 9223372036854775807 ∧ (0 < v.ll → ∀ x, v.la = some x → x.block < W.heap.size) := by
  obtain ⟨xs, m, _, _, _, hxl, hf⟩ := DataW.trod_struct Try.underlying51 h
  have ci : Try.prog.cellsOf 3 = 1 := by kernel_rfl
  have cb : Try.prog.cellsOf 4 = 1 := by kernel_rfl
  have cl : Try.prog.cellsOf 41 = 1 := by kernel_rfl
  match xs, hxl, cs, hl with
  | [y0, y1, y2, y3, y4, y5], _, [v0, v1, v2, v3, v4, v5], _ =>
    have g0 := hf 0 _ rfl
    have g1 := hf 1 _ rfl
    have g2 := hf 2 _ rfl
    have g3 := hf 3 _ rfl
    have g4 := hf 4 _ rfl
    have g5 := hf 5 _ rfl
    simp [ci, cb, cl] at g0 g1 g2 g3 g4 g5
    obtain ⟨z0, e0, _, w0⟩ := DataW.trod_int Try.underlying3 g0
    obtain ⟨z1, e1, _, w1⟩ := DataW.trod_int Try.underlying3 g1
    obtain ⟨z2, e2, _, w2⟩ := DataW.trod_int Try.underlying3 g2
    obtain ⟨z3, e3, _, w3⟩ := DataW.trod_int Try.underlying3 g3
    obtain ⟨b4, e4, _⟩ := DataW.trod_bool Try.underlying4 g4
    simp at e0 e1 e2 e3 e4
    subst e0 e1 e2 e3 e4
    rcases open_ints Try.underlying41 Try.underlying3 (by kernel_rfl) g5 with ⟨hcs, _⟩ | ⟨x, l, c, zs, hcs, _, hl, hm, hz, _, hcell, hwz⟩
    · simp at hcs
      subst hcs
      exact ⟨⟨z0, z1, z2, z3, b4, none, 0, 0, []⟩, rfl, ⟨by simp, fun h => absurd h (by simp)⟩, by simp, fun h => absurd h (by simp)⟩
    · simp at hcs
      subst hcs
      have hz' : zs.length = c := by simpa using hz
      refine ⟨⟨z0, z1, z2, z3, b4, some x, l, c, zs⟩, rfl, ⟨by simp only; omega, fun h0 => ?_⟩, by simp only; unfold maxLen at hm; omega, fun h0 y hy => ?_⟩
      · simp only at h0
        obtain ⟨b, off, rfl, hcell'⟩ := ints_at hcell (by omega)
        refine ⟨b, off, rfl, fun j hj => ?_⟩
        simp only at hj
        rw [hcell' j (by omega)]
      · simp only at h0 hy
        cases hy
        obtain ⟨b, off, rfl, hcell'⟩ := ints_at hcell (by omega)
        exact World.block_lt_of_cell? _ _ (hcell' 0 (by omega))
theorem add_twoW (a : Addr) (i j : Nat) : (a.add i).add j = a.add (i + j) := by
  unfold Addr.add
  by_cases hi : i = 0 <;> by_cases hj : j = 0 <;> simp [hi, hj, Nat.add_assoc]
set_option maxRecDepth 100000 in
/-- A script that came in. -/
theorem arg_ol {W : World} {r : Reach} {b0 : Nat} {v : Value} {d : DataW H} {p : List MemPlace} (hv : Value.okWide Try.prog W r b0 47 v) (h : DataW.Trod enc Try.prog W 0 (fun _ => true) true 47 v d p) :
    ∃ (a : Option Addr) (len cap : Nat) (os : Nat → OpW), v = .slice a len cap ∧ OpsAt W a len os := by
  obtain ⟨a, len, cap, rfl⟩ := okWide_slice Try.underlying47 hv
  obtain ⟨fuel, hf⟩ := h
  have hf' : DataW.trod enc Try.prog W 0 (fun _ => true) true fuel 47 [.slice a len cap] = some (d, p) := by simpa [Value.cells] using hf
  rcases Go.Deep.open_slice Try.underlying47 hf' with ⟨hcs, _⟩ | ⟨x, l, c, m, n, D, Pl, hcs, _, hl, hm, hmm, _, hx⟩
  · simp at hcs
    obtain ⟨rfl, rfl, rfl⟩ := hcs
    exact ⟨none, 0, 0, fun _ => ⟨0, 0, 0, 0, false, none, 0, 0, []⟩, rfl, by omega, fun h => by omega⟩
  · simp at hcs
    obtain ⟨rfl, rfl, rfl⟩ := hcs
    have hm' : m = cap := by simpa using hmm
    subst hm'
    have c6 : Try.prog.cellsOf 51 = 6 := by kernel_rfl
    have each : ∀ i, ∃ v : OpW, i < len → (∀ j u, [Value.int .i64 v.kind, .int .i64 v.i, .int .i64 v.a, .int .i64 v.size, .bool v.flip, .slice v.la v.ll v.lc][j]? = some u → W.cell? (x.add (i * 6 + j)) = some u) ∧ IntsAt W v.la v.ll v.lz ∧ v.ll ≤ 9223372036854775807 ∧ (0 < v.ll → ∀ x, v.la = some x → x.block < W.heap.size) := fun i => by
      by_cases hi : i < len
      · obtain ⟨cs', h1, h2⟩ := hx i (by omega)
        rw [c6] at h1
        obtain ⟨_, hlen, hcell⟩ := World.cells?_some h1
        obtain ⟨v, hv, hr, hi1, ha1⟩ := op_open (by simpa using hlen) h2
        refine ⟨v, fun _ => ⟨fun j u hu => ?_, hr, hi1, ha1⟩⟩
        have hj : j < 6 := (List.getElem?_eq_some_iff.1 hu).1
        have := hcell j hj
        rw [add_twoW, hv] at this
        rw [this, hu]
      · exact ⟨⟨0, 0, 0, 0, false, none, 0, 0, []⟩, fun h => absurd h hi⟩
    obtain ⟨os, hos⟩ := Classical.axiomOfChoice each
    refine ⟨some x, len, _, os, rfl, by unfold maxLen at hm; omega, fun h0 => ?_⟩
    have hc0 := (hos 0 h0).1 0 _ rfl
    obtain ⟨b, off, spot⟩ := x
    have hspot : spot = none := by simpa [Addr.add] using World.cell?_spot hc0
    subst hspot
    refine ⟨b, off, rfl, fun k hk => ?_⟩
    obtain ⟨h1, h2, h3, h4⟩ := hos k hk
    have hp : ∀ j u, [Value.int .i64 (os k).kind, .int .i64 (os k).i, .int .i64 (os k).a, .int .i64 (os k).size, .bool (os k).flip, .slice (os k).la (os k).ll (os k).lc][j]? = some u → W.cell? ⟨b, off + k * 6 + j, none⟩ = some u := fun j u hu => by
      have := h1 j u hu
      rw [Go.WideShapes.add_plain] at this
      rw [Nat.add_assoc]; exact this
    exact ⟨hp 0 _ rfl, hp 1 _ rfl, hp 2 _ rfl, hp 3 _ rfl, hp 4 _ rfl, hp 5 _ rfl, h2, h3, h4⟩
end
end Go.Proofs.Ytoifpbifipgpkaa.row
