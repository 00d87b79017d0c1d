/-
  The word functions of package hash, and the document's own.
-/
import Derived.Test.YthegllpmefilkaaDoorLaws
import Derived.Test.YthegllpmefilkaaDoorSha
import Derived.Deep.QuietTactic
import Derived.BigQuiet
namespace Go.Proofs.YthegllpmefilkaaDoor
open Go.RowKit
set_option maxHeartbeats 400000 in
theorem turn_calls (w : World) (x : Int) (n : Int) (hn : 0 ≤ n ∧ n ≤ 31) :
    Calls Tryd.prog 27 #[.int .u32 x, .int .u64 n] w fun e w' => e = .returned (.int .u32 (rorI x n)) ∧ w = w' := by
  go_enter Tryd.func27, Tryd.ntmps27
  go_wp2
  go_ret
  exact ⟨rfl, rfl⟩
theorem choose_calls (w : World) (x y z : Int) :
    Calls Tryd.prog 28 #[.int .u32 x, .int .u32 y, .int .u32 z] w fun e w' => e = .returned (.int .u32 (chI x y z)) ∧ w = w' := by
  have hs : IntKind.u32.signed = false := rfl
  go_enter Tryd.func28, Tryd.ntmps28
  go_wp2
  go_ret
  exact ⟨rfl, rfl⟩
theorem majority_calls (w : World) (x y z : Int) :
    Calls Tryd.prog 29 #[.int .u32 x, .int .u32 y, .int .u32 z] w fun e w' => e = .returned (.int .u32 (mjI x y z)) ∧ w = w' := by
  go_enter Tryd.func29, Tryd.ntmps29
  go_wp2
  go_ret
  exact ⟨rfl, rfl⟩
theorem ror_calls (w : World) (x n : Int) (hn : 0 ≤ n ∧ n ≤ 31) :
    Calls Tryd.prog 25 #[.int .u32 x, .int .i64 n] w fun e w' => e = .returned (.int .u32 (rorI x n)) ∧ ∃ k, w' = w.drewN k := by
  go_enter Tryd.func25, Tryd.ntmps25
  go_wp2
  go_quiet (fail)
  go_wp2
  go_ret
  exact ⟨rfl, _, rfl⟩
/-- A slice of bytes that reads as a list. -/
def BytesAt (w : World) (b off : Nat) (s : List UInt8) : Prop := w.rangeAt b off (cel s)
theorem BytesAt.cell {w : World} {b off : Nat} {s : List UInt8} (h : BytesAt w b off s) {j : Nat} (hj : j < s.length) : w.cell? ⟨b, off + j, none⟩ = some (.int .u8 (s.getD j 0).toNat) := by
  have := h j (.int .u8 (s.getD j 0).toNat) (by rw [cel_get]; simp [hj])
  exact this
set_option maxHeartbeats 400000 in
theorem word_calls (w : World) (b off cap : Nat) (s : List UInt8) (hs : BytesAt w b off s) (i : Nat) (hi : 4 * i + 4 ≤ s.length) :
    Calls Tryd.prog 30 #[.slice (some ⟨b, off + 4 * i, none⟩) 4 cap] w fun e w' => e = .returned (.int .u32 (wordI s i)) ∧ ∃ k, w' = w.drewN k := by
  have h0 := hs.cell (j := 4 * i) (by omega)
  have h1 := hs.cell (j := 4 * i + 1) (by omega)
  have h2 := hs.cell (j := 4 * i + 2) (by omega)
  have h3 := hs.cell (j := 4 * i + 3) (by omega)
  rw [show off + (4 * i + 1) = off + 4 * i + 1 by omega] at h1
  rw [show off + (4 * i + 2) = off + 4 * i + 2 by omega] at h2
  rw [show off + (4 * i + 3) = off + 4 * i + 3 by omega] at h3
  unfold wordI
  generalize hb0 : s.getD (4 * i) 0 = b0 at *
  generalize hb1 : s.getD (4 * i + 1) 0 = b1 at *
  generalize hb2 : s.getD (4 * i + 2) 0 = b2 at *
  generalize hb3 : s.getD (4 * i + 3) 0 = b3 at *
  have u0 := b0.toNat_lt; have u1 := b1.toNat_lt; have u2 := b2.toNat_lt; have u3 := b3.toNat_lt
  generalize ho : off + 4 * i = o at *
  clear hs hi hb0 hb1 hb2 hb3 ho
  go_enter Tryd.func30, Tryd.ntmps30
  go_wp2
  go_quiet (fail)
  go_wp2
  go_ret
  exact ⟨rfl, _, rfl⟩
end Go.Proofs.YthegllpmefilkaaDoor
