/-
  For any device and any script, DevPlays returns true and leaves its arguments as they were.
-/
import Derived.Test.YthjoakgcmelhmaaDevPlays
import Derived.Deep.Slices
namespace Go.Proofs.Ythjoakgcmelhmaa.devPlays
open Go.ChangeShapes Go.WideShapes Go.ChangeAt Go.RowKit Go.MapKept
set_option linter.unusedVariables false
/-! ### The row -/
theorem own : ownKnob Try.prog.godebug = none := by kernel_rfl
theorem laidOut : laidOutB Try.prog = true := by kernel_rfl
section
variable {H : Type} {enc : TypeId × Value → H}
theorem wf_i64 {z : Int} (h : (Lit.int .i64 z).wf = true) : -9223372036854775808 ≤ z ∧ z ≤ 9223372036854775807 := by
  simp [Lit.wf, IntKind.min, IntKind.max, IntKind.bits, IntKind.signed] at h
  omega
set_option maxRecDepth 100000 in
theorem op_open {W : World} {n : Nat} {cs : List Value} {x : DataW H × List MemPlace} (hl : cs.length = 6) (h : DataW.trod enc Try.prog W 0 (fun _ => true) true n 45 cs = some x) :
    ∃ v : OpV, cs = [.int .i64 v.kind, .int .i64 v.i, .int .i64 v.a, .int .i64 v.size, .bool v.flip, .slice v.la v.ll v.lc] ∧ IsRow .i64 W v.la v.ll v.lc v.lz ∧ (-9223372036854775808 ≤ v.i ∧ v.i ≤ 9223372036854775807) ∧ (-9223372036854775808 ≤ v.a ∧ v.a ≤ 9223372036854775807) := by
  obtain ⟨xs, m, _, _, _, hxl, hf⟩ := DataW.trod_struct Try.underlying45 h
  have ci : Try.prog.cellsOf 3 = 1 := by kernel_rfl
  have cb : Try.prog.cellsOf 4 = 1 := by kernel_rfl
  have cl : Try.prog.cellsOf 22 = 1 := by kernel_rfl
  match xs, hxl, cs, hl with
  | [y0, y1, y2, y3, y4, y5], _, [v0, v1, v2, v3, v4, v5], _ =>
    have g0 := hf 0 _ rfl
    have g1 := hf 1 _ rfl
    have g2 := hf 2 _ rfl
    have g3 := hf 3 _ rfl
    have g4 := hf 4 _ rfl
    have g5 := hf 5 _ rfl
    simp [ci, cb, cl] at g0 g1 g2 g3 g4 g5
    obtain ⟨z0, e0, _, w0⟩ := DataW.trod_int Try.underlying3 g0
    obtain ⟨z1, e1, _, w1⟩ := DataW.trod_int Try.underlying3 g1
    obtain ⟨z2, e2, _, w2⟩ := DataW.trod_int Try.underlying3 g2
    obtain ⟨z3, e3, _, w3⟩ := DataW.trod_int Try.underlying3 g3
    obtain ⟨b4, e4, _⟩ := DataW.trod_bool Try.underlying4 g4
    simp at e0 e1 e2 e3 e4
    subst e0 e1 e2 e3 e4
    rcases open_ints Try.underlying22 Try.underlying3 (by kernel_rfl) g5 with ⟨hcs, _⟩ | ⟨x, l, c, zs, hcs, _, hl, hm, hz, _, hcell, hwz⟩
    · simp at hcs
      subst hcs
      exact ⟨⟨z0, z1, z2, z3, b4, none, 0, 0, []⟩, rfl, .inl ⟨rfl, rfl, rfl, rfl⟩, wf_i64 w1, wf_i64 w2⟩
    · simp at hcs
      subst hcs
      exact ⟨⟨z0, z1, z2, z3, b4, some x, l, c, zs⟩, rfl, .inr ⟨_, rfl, hl, hm, by simpa using hz, hcell, hwz⟩, wf_i64 w1, wf_i64 w2⟩
theorem add_two (a : Addr) (i j : Nat) : (a.add i).add j = a.add (i + j) := by
  unfold Addr.add
  by_cases hi : i = 0 <;> by_cases hj : j = 0 <;> simp [hi, hj, Nat.add_assoc]
set_option maxRecDepth 100000 in
theorem script_open {W : World} {fuel : Nat} {a : Option Addr} {len cap : Nat} {y : DataW H × List MemPlace} (hf : DataW.trod enc Try.prog W 0 (fun _ => true) true fuel 40 [.slice a len cap] = some y) : ∃ os, ScriptAt W a len os := by
  rcases Go.Deep.open_slice Try.underlying40 hf with ⟨hcs, _⟩ | ⟨x, l, c, m, n, D, Pl, hcs, _, hl, hm, hmm, _, hx⟩
  · simp at hcs
    obtain ⟨rfl, rfl, rfl⟩ := hcs
    exact ⟨fun _ => ⟨0, 0, 0, 0, false, none, 0, 0, []⟩, by omega, fun h => by omega⟩
  · simp at hcs
    obtain ⟨rfl, rfl, rfl⟩ := hcs
    have hm' : m = cap := by simpa using hmm
    subst hm'
    have c6 : Try.prog.cellsOf 45 = 6 := by kernel_rfl
    have each : ∀ i, ∃ v : OpV, i < len → (∀ j u, [Value.int .i64 v.kind, .int .i64 v.i, .int .i64 v.a, .int .i64 v.size, .bool v.flip, .slice v.la v.ll v.lc][j]? = some u → W.cell? (x.add (i * 6 + j)) = some u) ∧ IsRow .i64 W v.la v.ll v.lc v.lz ∧ (-9223372036854775808 ≤ v.i ∧ v.i ≤ 9223372036854775807) ∧ (-9223372036854775808 ≤ v.a ∧ v.a ≤ 9223372036854775807) := fun i => by
      by_cases hi : i < len
      · obtain ⟨cs', h1, h2⟩ := hx i (by omega)
        rw [c6] at h1
        obtain ⟨_, hlen, hcell⟩ := World.cells?_some h1
        obtain ⟨v, hv, hr, hi1, ha1⟩ := op_open (by simpa using hlen) h2
        refine ⟨v, fun _ => ⟨fun j u hu => ?_, hr, hi1, ha1⟩⟩
        have hj : j < 6 := (List.getElem?_eq_some_iff.1 hu).1
        have := hcell j hj
        rw [add_two, hv] at this
        rw [this, hu]
      · exact ⟨⟨0, 0, 0, 0, false, none, 0, 0, []⟩, fun h => absurd h hi⟩
    obtain ⟨os, hos⟩ := Classical.axiomOfChoice each
    refine ⟨os, by unfold maxLen at hm; omega, fun h0 => ?_⟩
    have hc0 := (hos 0 h0).1 0 _ rfl
    obtain ⟨b, off, spot⟩ := x
    have hspot : spot = none := by simpa [Addr.add] using World.cell?_spot hc0
    subst hspot
    refine ⟨b, off, rfl, by have := World.block_lt_of_cell? _ _ hc0; simpa [Addr.add] using this, fun k hk => ?_⟩
    obtain ⟨h1, h2, h3, h4⟩ := hos k hk
    have hp : ∀ j u, [Value.int .i64 (os k).kind, .int .i64 (os k).i, .int .i64 (os k).a, .int .i64 (os k).size, .bool (os k).flip, .slice (os k).la (os k).ll (os k).lc][j]? = some u → W.cell? ⟨b, off + k * 6 + j, none⟩ = some u := fun j u hu => by
      have := h1 j u hu
      rw [Go.WideShapes.add_plain] at this
      rw [Nat.add_assoc]; exact this
    exact ⟨hp 0 _ rfl, hp 1 _ rfl, hp 2 _ rfl, hp 3 _ rfl, hp 4 _ rfl, hp 5 _ rfl, h2, h3, h4⟩
end
set_option maxRecDepth 100000 in
theorem lifted (os : Os) (started : os.Started) (H : Type) (enc : TypeId × Value → H) :
    ReturnsInHanded {} Try.checked os 5 .any (Rows.devPlaysSpec.pre6 enc Try.prog Try.f5 Rows.devPlaysRow.domain false) (Rows.devPlaysSpec.post enc Try.prog Try.f5 false true false false) := by
  refine returnsInHanded_of_change (C := Try.checked) own started (by kernel_rfl) Try.func5
    (ChangeSpec.witness6 (enc := enc) (C := Try.checked) false ⟨#[], #[.int .i64 0, .slice none 0 0], []⟩ 8 (by kernel_rfl) (by kernel_rfl) (by kernel_rfl) (by kernel_rfl)) ?_
  intro W base args ds gs before hval0 hW hcnd _
  have hval : ∀ (j : Nat) t v, Try.f5.params[j]? = some t → args[j]? = some v → Value.okWide Try.prog W .any base t v := hval0
  have hW' := hW
  obtain ⟨p, q, hA0, hV, rfl, hfz, hnd⟩ := hW
  have hA : DataW.TrodAll enc Try.prog W 0 (fun _ => true) true Try.f5.params.toList args.toList ds p := hA0
  rw [Try.params5] at hA hval
  obtain ⟨v0, vs0, d0, ds0, p0, q0, hargs, rfl, rfl, h0, r0⟩ := trodAll_cons hA
  obtain ⟨v1, vs1, d1, ds1, p1, q1, rfl, rfl, rfl, h1, r1⟩ := trodAll_cons r0
  obtain ⟨rfl, rfl, rfl⟩ := trodAll_nil r1
  obtain rfl : args = #[v0, v1] := by cases args; simp_all
  obtain ⟨rfl, rfl⟩ := trodVars_none hV
  obtain ⟨n, rfl, rfl, rfl, w0⟩ := open_int Try.underlying3 (hval 0 3 v0 rfl rfl) h0
  obtain ⟨a1, len1, cap1, rfl⟩ := okWide_slice Try.underlying40 (hval 1 40 v1 rfl rfl)
  have k1 := h1
  have lt1 : ∀ x ∈ p1, x.block < W.heap.size := by obtain ⟨m, hm⟩ := k1; exact DataW.trod_lt m _ _ _ hm
  obtain ⟨sc, hsc⟩ : ∃ sc, ScriptAt W a1 len1 sc := by
    obtain ⟨fuel, hf⟩ := h1
    exact script_open (y := (d1, p1)) (by simpa [Value.cells] using hf)
  clear hA0 hval0
  refine (walk n (wf_i64 w0) a1 len1 cap1 sc W hsc).mono fun e W' ⟨he, bel⟩ => ?_
  subst he
  exact ⟨_, rfl, _, _, _, [], _, [], hW', trodAll_mk1 (shut_bool Try.underlying4 _), (trodAll_cons_mk (shut_int Try.underlying3 w0) (trodAll_cons_mk (Below.trod laidOut (by kernel_rfl) (of_decide_eq_true (by kernel_rfl)) k1 bel lt1) trodAll_mk0)), rfl, bel.frame _, fun h => by cases h⟩
theorem over : Rows.devPlaysRow.holds Try.pinned (OpenSpec.ofChange Rows.devPlaysSpec) :=
  OpenClaim.holds_of_wide 5 Try.f5 rfl rfl rfl rfl rfl rfl rfl ⟨rfl, rfl, rfl, rfl, rfl⟩ rfl rfl rfl rfl rfl (by kernel_rfl) Try.func5 (by kernel_rfl)
    (of_decide_eq_true (by kernel_rfl)) (by unfold Func.isWrapper; first | (rw [if_pos (by decide +kernel)]; kernel_rfl) | (rw [if_neg (by decide +kernel)]; exact ⟨rfl, rfl⟩))
    (fun os started H enc _ => lifted os started H enc)
theorem proved : Rows.DevPlaysSaid := over
end Go.Proofs.Ythjoakgcmelhmaa.devPlays
