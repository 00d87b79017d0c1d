/-
  alloc: its smallest functions.
-/
import Derived.Test.YtoifpbifipgpkaaAl0
import Derived.Test.YtoifpbifipgpkaaWal1
namespace Go.Proofs.Ytoifpbifipgpkaa
open Go.RowKit Go.MapKept
/-- How many sectors the bits of n items need. -/
def secI (n : Int) : Int := if n < 1 then 0 else (n - 1) / 512 + 1
theorem sectors_calls (w : World) (n : Int) (hn : -9223372036854775808 ≤ n ∧ n ≤ 9223372036854775807) : Calls Try.prog 37 #[.int .i64 n] w fun e w' => e = .returned (.int .i64 (secI n)) ∧ w = w' := by
  unfold secI
  by_cases h : n < 1
  · go_enter Try.func37, Try.ntmps37
    go_wp2_with fail
    go_ret
    exact ⟨by simp [h], rfl⟩
  · have h1 : IntKind.i64.wrap (n - 1) = n - 1 := IntWalk.i64_in _ (by omega)
    have h2 : IntKind.i64.wrap ((n - 1) / 512 + 1) = (n - 1) / 512 + 1 := IntWalk.i64_in _ (by omega)
    have h3 : 0 ≤ n - 1 := by omega
    go_enter Try.func37, Try.ntmps37
    go_wp2_with fail
    go_ret
    exact ⟨by simp [h], rfl⟩
/-- A map's own cells. -/
def MapBox (w : World) (h s : Nat) (at' n : Int) : Prop := w.heap[h]? = some (.cells #[.pointer (some ⟨s, 0, none⟩), .int .i64 at', .int .i64 n] 102 (0, 0))
def newOk (R at' k : Int) : Bool := decide (1 ≤ k) && decide (k ≤ 8192) && decide (0 ≤ at') && decide (at' ≤ R - secI k)
def NewPost (w : World) (s : Nat) (R at' k : Int) (e : Ending) (w' : World) : Prop :=
  Fr [] w w' ∧ if newOk R at' k = true then ∃ h, e = .returned (.tuple #[.pointer (some ⟨h, 0, none⟩), .int .i64 0]) ∧ w.heap.size ≤ h ∧ h < w'.heap.size ∧ MapBox w' h s at' k else e = .returned (.tuple #[.pointer none, .int .i64 1])
theorem new_nil (w : World) (at' k : Int) : Calls Try.prog 36 #[.pointer none, .int .i64 at', .int .i64 k] w fun e w' => e = .returned (.tuple #[.pointer none, .int .i64 1]) ∧ w = w' := by
  go_enter Try.func36, Try.ntmps36
  go_wp2_with fail
  go_ret2
  exact ⟨rfl, rfl⟩
theorem new_calls (w : World) (s : Nat) (R : Int) (hR : 0 ≤ R ∧ R ≤ 9223372036854775807) (hs : Calls Try.prog 49 #[.pointer (some ⟨s, 0, none⟩)] w fun e w' => e = .returned (.int .i64 R) ∧ w = w') (at' k : Int) (hk : -9223372036854775808 ≤ k ∧ k ≤ 9223372036854775807) :
    Calls Try.prog 36 #[.pointer (some ⟨s, 0, none⟩), .int .i64 at', .int .i64 k] w (NewPost w s R at' k) := by
  have HS := Lib.hid hs
  have HC := Lib.hid (sectors_calls w k hk)
  clear hs
  by_cases h1 : 1 ≤ k
  · by_cases h2 : k ≤ 8192
    · by_cases h3 : 0 ≤ at'
      · have e1 : decide (k < 1) = false := decide_eq_false (by omega)
        have e2 : decide (8192 < k) = false := decide_eq_false (by omega)
        have e3 : decide (at' < 0) = false := decide_eq_false (by omega)
        have hsec : secI k = (k - 1) / 512 + 1 := by unfold secI; rw [if_neg (by omega)]
        have hw : IntKind.i64.wrap (R - secI k) = R - secI k := IntWalk.i64_in _ (by omega)
        by_cases h4 : at' ≤ R - secI k
        · have e4 : decide (R - secI k < at') = false := decide_eq_false (by omega)
          have g1 : ¬ k < 1 := by omega
          have g2 : ¬ 8192 < k := by omega
          have g3 : ¬ at' < 0 := by omega
          have g4 : ¬ R - secI k < at' := by omega
          go_enter Try.func36, Try.ntmps36
          go_wp2_with fail
          refine HS.out.mono ?_
          rintro e w1 ⟨rfl, rfl⟩
          go_wp2_with fail
          refine HC.out.mono ?_
          rintro e w1 ⟨rfl, rfl⟩
          go_wp2_with fail
          go_ret2
          refine ⟨(Fr.refl [] w).alloc _, ?_⟩
          rw [if_pos (by simp [newOk, h1, h2, h3, h4])]
          exact ⟨w.heap.size, rfl, Nat.le_refl _, by simp, heap_alloc_new w _⟩
        · have g1 : ¬ k < 1 := by omega
          have g2 : ¬ 8192 < k := by omega
          have g3 : ¬ at' < 0 := by omega
          have g4 : R - secI k < at' := by omega
          go_enter Try.func36, Try.ntmps36
          go_wp2_with fail
          refine HS.out.mono ?_
          rintro e w1 ⟨rfl, rfl⟩
          go_wp2_with fail
          refine HC.out.mono ?_
          rintro e w1 ⟨rfl, rfl⟩
          go_wp2_with fail
          go_ret2
          refine ⟨Fr.refl [] w, ?_⟩
          rw [if_neg (by intro hh; simp only [newOk, Bool.and_eq_true, decide_eq_true_eq] at hh; omega)]
          rfl
      · have g1 : ¬ k < 1 := by omega
        have g2 : ¬ 8192 < k := by omega
        have g3 : at' < 0 := by omega
        go_enter Try.func36, Try.ntmps36
        go_wp2_with fail
        go_ret2
        refine ⟨Fr.refl [] w, ?_⟩
        rw [if_neg (by intro hh; simp only [newOk, Bool.and_eq_true, decide_eq_true_eq] at hh; omega)]
        rfl
    · have g1 : ¬ k < 1 := by omega
      have g2 : 8192 < k := by omega
      go_enter Try.func36, Try.ntmps36
      go_wp2_with fail
      go_ret2
      refine ⟨Fr.refl [] w, ?_⟩
      rw [if_neg (by intro hh; simp only [newOk, Bool.and_eq_true, decide_eq_true_eq] at hh; omega)]
      rfl
  · have g1 : k < 1 := by omega
    go_enter Try.func36, Try.ntmps36
    go_wp2_with fail
    go_ret2
    refine ⟨Fr.refl [] w, ?_⟩
    rw [if_neg (by intro hh; simp only [newOk, Bool.and_eq_true, decide_eq_true_eq] at hh; omega)]
    rfl
/-- How many items are in a sector. -/
def itemsI (n : Int) (first : Nat) : Int := min 512 (n - first)
theorem items_calls (w : World) (h s : Nat) (at' n : Int) (hb : MapBox w h s at' n) (first : Nat) (hf : (first : Int) ≤ n) (hn : n ≤ 8192) :
    Calls Try.prog 54 #[.pointer (some ⟨h, 0, none⟩), .int .i64 first] w fun e w' => e = .returned (.int .i64 (itemsI n first)) ∧ w = w' := by
  have hc := box_cell hb
  clear hb
  have h1 : IntKind.i64.wrap (n - first) = n - first := IntWalk.i64_in _ (by omega)
  unfold itemsI
  go_enter Try.func54, Try.ntmps54
  go_wp2_with fail
  all_goals
    go_ret
    refine ⟨?_, rfl⟩
    first
      | (rw [Int.min_eq_right (by omega)]; rfl)
      | (rw [Int.min_eq_left (by omega)]; rfl)
/-- A sector's bytes in a slice, the bit of an item. -/
theorem bit_calls (w : World) (g cap : Nat) (f : Nat → Bool) (i : Nat) (hi : i < 9000000000000000000) (hr : w.rangeAt g 0 (cel (secOf f (i / 512)))) :
    Calls Try.prog 57 #[.slice (some ⟨g, 0, none⟩) 64 cap, .int .i64 i] w fun e w' => e = .returned (.int .i64 (f i).toNat) ∧ w = w' := by
  have hc : w.cell? ⟨g, i % 512 / 8, none⟩ = some (.int .u8 (b8 f (512 * (i / 512) + 8 * (i % 512 / 8)))) := by
    have := hr (i % 512 / 8) _ (secOf_get f (i / 512) (by omega))
    rwa [Nat.zero_add] at this
  have hbit := b8_bit f (512 * (i / 512) + 8 * (i % 512 / 8)) (r := i % 8) (by omega)
  rw [show 512 * (i / 512) + 8 * (i % 512 / 8) + i % 8 = i by omega] at hbit
  have hlt := b8_lt f (512 * (i / 512) + 8 * (i % 512 / 8))
  generalize b8 f (512 * (i / 512) + 8 * (i % 512 / 8)) = x at *
  obtain ⟨r, hr8⟩ : ∃ r : Nat, r = i % 8 := ⟨_, rfl⟩
  obtain ⟨k, hk⟩ : ∃ k : Nat, k = i % 512 / 8 := ⟨_, rfl⟩
  have ei : (0 : Int) ≤ (i : Int) := by omega
  have e0 : (i : Int) % 512 / 8 = (k : Int) := by omega
  have e1 : (i : Int) % 8 = (r : Int) := by omega
  have e2 : (0 : Int) ≤ (i : Int) % 512 := by omega
  have e3 : (r : Int) ≤ 64 := by omega
  have e4 : (0 : Int) ≤ (r : Int) := by omega
  have e5 : (k : Int) < 64 := by omega
  have e6 : (0 : Int) ≤ (k : Int) := by omega
  have e7 : IntKind.i64.wrap (x : Int) = x := IntWalk.i64_in _ (by omega)
  have e8 : ((k : Int)).toNat = k := by omega
  rw [← hk] at hc
  rw [← hr8] at hbit
  clear hr hk hr8
  go_enter Try.func57, Try.ntmps57
  go_wp2_with fail
  go_ret
  refine ⟨?_, rfl⟩
  have e9 : bits .and .i64 ((x : Int) / 2 ^ r) 1 = ((f i).toNat : Int) := by
    rw [mask1, ← hbit]
    rw [Int.natCast_emod, Int.natCast_ediv, Int.natCast_pow]
    rfl
  rw [← e9]
  rfl
end Go.Proofs.Ytoifpbifipgpkaa
