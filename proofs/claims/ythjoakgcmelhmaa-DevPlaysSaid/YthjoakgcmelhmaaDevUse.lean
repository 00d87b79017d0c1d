/-
  What the laws on devices lean on besides.
-/
import Derived.Test.YthjoakgcmelhmaaDevAwake
import Derived.Test.YthjoakgcmelhmaaMask
import Derived.OpenShut
namespace Go.Proofs.Ythjoakgcmelhmaa
open Go.RowKit Go.MapKept
theorem bytesWorld_fr' (W : World) (b : ByteArray) : Fr [] W (Lib.bytesWorld W 5 b) := ⟨rfl, rfl, rfl, by rw [Lib.bytesWorld_size]; omega, fun k hk _ => Lib.bytesWorld_at_old W _ _ k hk⟩
theorem bytesWorld_range' (W : World) (s : List UInt8) : (Lib.bytesWorld W 5 ⟨s.toArray⟩).rangeAt W.heap.size 0 (cel s) := by
  have hsz : (⟨s.toArray⟩ : ByteArray).size = s.length := by simp [ByteArray.size]
  intro j v hv
  have hj : j < s.length := by have := (List.getElem?_eq_some_iff.1 hv).1; rwa [cel_length] at this
  rw [Nat.zero_add, Lib.bytesWorld_cell W _ _ j (by rw [hsz]; exact hj)]
  rw [cel_get] at hv
  simpa [hj] using hv
theorem conv_bytes (s : List UInt8) (hs : s.length = 64) (W : World) : (convert 9 28 (.string ⟨s.toArray⟩)).run Try.prog W = .ok (.slice (some ⟨W.heap.size, 0, none⟩) 64 (grownCap W 64 0 5)) (Lib.bytesWorld W 5 ⟨s.toArray⟩) := by
  have h := Lib.run_convert_string_bytes (P := Try.prog) W 9 28 5 ⟨s.toArray⟩ Try.underlying9 Try.underlying28 Try.underlying5
  have hsz : (⟨s.toArray⟩ : ByteArray).size = 64 := by simp [ByteArray.size, hs]
  rw [hsz] at h; exact h
theorem bytes_at (W : World) (k : Nat) (z : Int) (hz : z = (k : Int)) (hk : k ≤ 100000) :
    Calls Try.prog 13 #[.int .i64 z, .int .i64 64] W fun e w' => e = .returned (.string ⟨(bys k 64).toArray⟩) ∧ Fr [] W w' := by
  subst hz; exact bytes_calls W k 64 (by decide) hk
theorem burnF_neg : burnF (-1) = -1 := rfl
/-- A slice of ints that came in. -/
def IsRow (k : IntKind) (w : World) (a : Option Addr) (len cap : Nat) (zs : List Int) : Prop :=
  (a = none ∧ len = 0 ∧ cap = 0 ∧ zs = []) ∨
  ∃ x, a = some x ∧ len ≤ cap ∧ cap ≤ maxLen ∧ zs.length = cap ∧ (∀ i, i < zs.length → w.cell? (x.add i) = some (.int k (zs.getD i 0))) ∧ ∀ n ∈ zs, (Lit.int k n).wf = true
theorem IsRow.lt63 {k : IntKind} {w : World} {a : Option Addr} {len cap : Nat} {zs : List Int} (h : IsRow k w a len cap zs) : len ≤ 9223372036854775807 := by
  rcases h with ⟨_, h, _⟩ | ⟨_, _, h, h', _⟩
  · omega
  · unfold maxLen at h'; omega
theorem IsRow.at {k : IntKind} {w : World} {a : Option Addr} {len cap : Nat} {zs : List Int} (h : IsRow k w a len cap zs) {i : Nat} (hi : i < len) :
    ∃ kb ko, a = some ⟨kb, ko, none⟩ ∧ w.cell? ⟨kb, ko + i, none⟩ = some (.int k (zs.getD i 0)) ∧ kb < w.heap.size := by
  rcases h with ⟨_, h, _⟩ | ⟨x, hx, h1, _, h3, h4, _⟩
  · omega
  · obtain ⟨b, off, e1, e2⟩ := ints_at h4 (by omega)
    have hc := e2 i (by omega)
    exact ⟨b, off, by rw [hx, e1], hc, World.block_lt_of_cell? _ _ hc⟩
theorem IsRow.ints {w wr : World} {a : Option Addr} {len cap : Nat} {zs : List Int} (h : IsRow .i64 w a len cap zs) (hf : Fr [] w wr) : IntsAt wr a len zs := by
  rcases h with ⟨_, h, _, h'⟩ | ⟨x, hx, h1, _, h3, h4, _⟩
  · subst h h'; exact ⟨Nat.le_refl _, fun h => by omega⟩
  · refine ⟨by omega, fun h0 => ?_⟩
    obtain ⟨b, off, e1, e2⟩ := ints_at h4 (by omega)
    refine ⟨b, off, by rw [hx, e1], fun i hi => ?_⟩
    have hc := e2 i (by omega)
    rw [World.cell?_of_block (w := w) (hf.block b (World.block_lt_of_cell? _ _ hc) (by simp))]; exact hc
theorem IsRow.block {k : IntKind} {w : World} {a : Option Addr} {len cap : Nat} {zs : List Int} (h : IsRow k w a len cap zs) : 0 < len → ∀ x, a = some x → x.block < w.heap.size := by
  intro h0 x hx
  obtain ⟨kb, ko, ha, _, hb⟩ := h.at h0
  rw [hx] at ha; cases ha; exact hb
/-- A cell of the world at the beginning. -/
theorem cell_fr {w wr : World} {r : List Nat} (hf : Fr r w wr) {b o : Nat} {v : Value} (h : w.cell? ⟨b, o, none⟩ = some v) (hb : b ∉ r) : wr.cell? ⟨b, o, none⟩ = some v := by
  rw [World.cell?_of_block (w := w) (hf.block b (World.block_lt_of_cell? _ _ h) hb)]; exact h
theorem owns_slice {w : World} {B : Nat} {T : TypeId} {v : Value} {n : Nat} {xs : List Value} (h : w.ownsRow B T 1 v n xs) : ∃ a cap, v = .slice a n cap := by
  obtain ⟨h1, h2⟩ := h
  rcases h2 with ⟨h3, h4⟩ | ⟨g, cap, cur, h3, _⟩
  · subst h4; simp at h1; subst h1; exact ⟨none, 0, h3⟩
  · exact ⟨_, _, h3⟩
end Go.Proofs.Ythjoakgcmelhmaa
