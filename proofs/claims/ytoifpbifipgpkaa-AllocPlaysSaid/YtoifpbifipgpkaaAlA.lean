/-
  alloc: bits as bytes of sectors.
  alloc: its smallest functions.
  alloc: the least free item of a sector.
  alloc: a map's sectors are read, a bit is turned.
  alloc: Take, Give, Taken, Count.
  alloc: Give, Taken, Count.
  alloc: a map on a store of the statements', as a plain value: what is taken, what was at the last Commit.
-/
import Derived.WalkKit
import Derived.Test.YtoifpbifipgpkaaLaws
import Derived.Test.YtoifpbifipgpkaaMask
import Derived.Test.YtoifpbifipgpkaaWal1
import Derived.Test.YtoifpbifipgpkaaWal29
import Derived.Deep.RegionHeld3
import Derived.Test.YtoifpbifipgpkaaWal30
namespace Go.Proofs.Ytoifpbifipgpkaa
/-- Eight bits as a number. -/
def mk8 (b0 b1 b2 b3 b4 b5 b6 b7 : Bool) : Nat := b0.toNat + 2 * b1.toNat + 4 * b2.toNat + 8 * b3.toNat + 16 * b4.toNat + 32 * b5.toNat + 64 * b6.toNat + 128 * b7.toNat
def pick8 (b0 b1 b2 b3 b4 b5 b6 b7 : Bool) (r : Nat) : Bool := (b0 && r == 0) || (b1 && r == 1) || (b2 && r == 2) || (b3 && r == 3) || (b4 && r == 4) || (b5 && r == 5) || (b6 && r == 6) || (b7 && r == 7)
theorem mk8_bit : ∀ b0 b1 b2 b3 b4 b5 b6 b7 : Bool, ∀ r : Fin 8, mk8 b0 b1 b2 b3 b4 b5 b6 b7 / 2 ^ r.val % 2 = (pick8 b0 b1 b2 b3 b4 b5 b6 b7 r.val).toNat := by decide +kernel
theorem mk8_lt : ∀ b0 b1 b2 b3 b4 b5 b6 b7 : Bool, mk8 b0 b1 b2 b3 b4 b5 b6 b7 < 256 := by decide +kernel
theorem mk8_full : ∀ b0 b1 b2 b3 b4 b5 b6 b7 : Bool, mk8 b0 b1 b2 b3 b4 b5 b6 b7 = 255 ↔ (b0 && b1 && b2 && b3 && b4 && b5 && b6 && b7) = true := by decide +kernel
theorem mk8_flip : ∀ b0 b1 b2 b3 b4 b5 b6 b7 : Bool, ∀ r : Fin 8, bits .xor .u8 ((mk8 b0 b1 b2 b3 b4 b5 b6 b7 : Nat) : Int) ((2 ^ r.val : Nat) : Int) = ((mk8 (b0 != (r.val == 0)) (b1 != (r.val == 1)) (b2 != (r.val == 2)) (b3 != (r.val == 3)) (b4 != (r.val == 4)) (b5 != (r.val == 5)) (b6 != (r.val == 6)) (b7 != (r.val == 7)) : Nat) : Int) := by decide +kernel
/-- The eight bits from a on. -/
def b8 (f : Nat → Bool) (a : Nat) : Nat := mk8 (f a) (f (a + 1)) (f (a + 2)) (f (a + 3)) (f (a + 4)) (f (a + 5)) (f (a + 6)) (f (a + 7))
theorem b8_lt (f : Nat → Bool) (a : Nat) : b8 f a < 256 := mk8_lt _ _ _ _ _ _ _ _
theorem b8_bit (f : Nat → Bool) (a : Nat) {r : Nat} (hr : r < 8) : b8 f a / 2 ^ r % 2 = (f (a + r)).toNat := by
  refine (mk8_bit _ _ _ _ _ _ _ _ ⟨r, hr⟩).trans ?_
  obtain rfl | rfl | rfl | rfl | rfl | rfl | rfl | rfl : r = 0 ∨ r = 1 ∨ r = 2 ∨ r = 3 ∨ r = 4 ∨ r = 5 ∨ r = 6 ∨ r = 7 := by omega
  all_goals simp [pick8]
theorem b8_full (f : Nat → Bool) (a : Nat) : b8 f a = 255 ↔ ∀ r, r < 8 → f (a + r) = true := by
  unfold b8
  rw [mk8_full]
  simp only [Bool.and_eq_true]
  constructor
  · rintro ⟨⟨⟨⟨⟨⟨⟨h0, h1⟩, h2⟩, h3⟩, h4⟩, h5⟩, h6⟩, h7⟩ r hr
    obtain rfl | rfl | rfl | rfl | rfl | rfl | rfl | rfl : r = 0 ∨ r = 1 ∨ r = 2 ∨ r = 3 ∨ r = 4 ∨ r = 5 ∨ r = 6 ∨ r = 7 := by omega
    all_goals assumption
  · intro h
    exact ⟨⟨⟨⟨⟨⟨⟨h 0 (by omega), h 1 (by omega)⟩, h 2 (by omega)⟩, h 3 (by omega)⟩, h 4 (by omega)⟩, h 5 (by omega)⟩, h 6 (by omega)⟩, h 7 (by omega)⟩
/-- Bit i turned. -/
def flip (f : Nat → Bool) (i : Nat) : Nat → Bool := fun y => f y != (y == i)
theorem b8_flip (f : Nat → Bool) (a : Nat) {r : Nat} (hr : r < 8) : bits .xor .u8 ((b8 f a : Nat) : Int) ((2 ^ r : Nat) : Int) = ((b8 (flip f (a + r)) a : Nat) : Int) := by
  refine (mk8_flip _ _ _ _ _ _ _ _ ⟨r, hr⟩).trans ?_
  have e : ∀ t, (a + t == a + r) = (r == t) := fun t => by rw [Bool.eq_iff_iff, beq_iff_eq, beq_iff_eq]; omega
  unfold b8 flip
  rw [show (a == a + r) = (r == 0) from e 0, e 1, e 2, e 3, e 4, e 5, e 6, e 7]
theorem b8_other (f : Nat → Bool) (a i : Nat) (h : i < a ∨ a + 8 ≤ i) : b8 (flip f i) a = b8 f a := by
  have e : ∀ t, t < 8 → flip f i (a + t) = f (a + t) := fun t ht => by
    have : (a + t == i) = false := beq_eq_false_iff_ne.2 (by omega)
    simp [flip, this]
  unfold b8
  rw [show flip f i a = f a from e 0 (by omega), e 1 (by omega), e 2 (by omega), e 3 (by omega), e 4 (by omega), e 5 (by omega), e 6 (by omega), e 7 (by omega)]
/-- The sector j of a map's bits. -/
def secOf (f : Nat → Bool) (j : Nat) : List UInt8 := (List.range 64).map fun k => UInt8.ofNat (b8 f (512 * j + 8 * k))
theorem secOf_len (f : Nat → Bool) (j : Nat) : (secOf f j).length = 64 := by simp [secOf]
theorem u8_of {x : Nat} (h : x < 256) : (UInt8.ofNat x).toNat = x := by simp [UInt8.toNat_ofNat]; omega
theorem secOf_get (f : Nat → Bool) (j : Nat) {k : Nat} (hk : k < 64) : (cel (secOf f j))[k]? = some (.int .u8 (b8 f (512 * j + 8 * k))) := by
  rw [cel_get]
  simp only [secOf, List.getElem?_map, List.getElem?_range hk, Option.map_some]
  rw [u8_of (b8_lt _ _)]
theorem cel_len (s : List UInt8) : (cel s).length = s.length := by simp [cel]
theorem secOf_cel_len (f : Nat → Bool) (j : Nat) : (cel (secOf f j)).length = 64 := by rw [cel_len, secOf_len]
/-- The byte of bit i turned: the sector's bytes. -/
theorem secOf_flip (f : Nat → Bool) (i : Nat) : (cel (secOf f (i / 512))).set (i % 512 / 8) (.int .u8 (b8 (flip f i) (512 * (i / 512) + 8 * (i % 512 / 8)))) = cel (secOf (flip f i) (i / 512)) := by
  refine List.ext_getElem? fun k => ?_
  rw [List.getElem?_set]
  by_cases hk : k < 64
  · split
    · rename_i h
      subst h
      rw [if_pos (by rw [secOf_cel_len]; omega), secOf_get _ _ hk]
    · rename_i h
      rw [secOf_get _ _ hk, secOf_get _ _ hk, b8_other _ _ _ (by omega)]
  · rw [if_neg (by omega), List.getElem?_eq_none (by rw [secOf_cel_len]; omega), List.getElem?_eq_none (by rw [secOf_cel_len]; omega)]
theorem secOf_other (f : Nat → Bool) (i j : Nat) (h : j ≠ i / 512) : secOf (flip f i) j = secOf f j := by
  unfold secOf
  refine List.map_congr_left fun k hk => ?_
  rw [b8_other _ _ _ (by have := List.mem_range.1 hk; omega)]
/-- Bits that agree on a sector: the same sector. -/
theorem secOf_congr {f g : Nat → Bool} {j : Nat} (h : ∀ i, 512 * j ≤ i → i < 512 * j + 512 → f i = g i) : secOf f j = secOf g j := by
  unfold secOf
  refine List.map_congr_left fun k hk => ?_
  have hk := List.mem_range.1 hk
  unfold b8
  rw [h _ (by omega) (by omega), h _ (by omega) (by omega), h _ (by omega) (by omega), h _ (by omega) (by omega), h _ (by omega) (by omega), h _ (by omega) (by omega), h _ (by omega) (by omega), h _ (by omega) (by omega)]
theorem secOf_zero (j : Nat) : secOf (fun _ => false) j = zeros := by
  have h : secOf (fun _ => false) j = (List.range 64).map fun _ => (0 : UInt8) := List.map_congr_left fun k _ => by simp [b8, mk8]
  rw [h]
  rfl
end Go.Proofs.Ytoifpbifipgpkaa
namespace Go.Proofs.Ytoifpbifipgpkaa
open Go.RowKit Go.MapKept
/-- How many sectors the bits of n items need. -/
def secI (n : Int) : Int := if n < 1 then 0 else (n - 1) / 512 + 1
theorem sectors_calls (w : World) (n : Int) (hn : -9223372036854775808 ≤ n ∧ n ≤ 9223372036854775807) : Calls Try.prog 37 #[.int .i64 n] w fun e w' => e = .returned (.int .i64 (secI n)) ∧ w = w' := by
  unfold secI
  by_cases h : n < 1
  · go_enter Try.func37, Try.ntmps37
    go_wp2_with fail
    go_ret
    exact ⟨by simp [h], rfl⟩
  · have h1 : IntKind.i64.wrap (n - 1) = n - 1 := IntWalk.i64_in _ (by omega)
    have h2 : IntKind.i64.wrap ((n - 1) / 512 + 1) = (n - 1) / 512 + 1 := IntWalk.i64_in _ (by omega)
    have h3 : 0 ≤ n - 1 := by omega
    go_enter Try.func37, Try.ntmps37
    go_wp2_with fail
    go_ret
    exact ⟨by simp [h], rfl⟩
/-- A map's own cells. -/
def MapBox (w : World) (h s : Nat) (at' n : Int) : Prop := w.heap[h]? = some (.cells #[.pointer (some ⟨s, 0, none⟩), .int .i64 at', .int .i64 n] 102 (0, 0))
def newOk (R at' k : Int) : Bool := decide (1 ≤ k) && decide (k ≤ 8192) && decide (0 ≤ at') && decide (at' ≤ R - secI k)
def NewPost (w : World) (s : Nat) (R at' k : Int) (e : Ending) (w' : World) : Prop :=
  Fr [] w w' ∧ if newOk R at' k = true then ∃ h, e = .returned (.tuple #[.pointer (some ⟨h, 0, none⟩), .int .i64 0]) ∧ w.heap.size ≤ h ∧ h < w'.heap.size ∧ MapBox w' h s at' k else e = .returned (.tuple #[.pointer none, .int .i64 1])
theorem new_nil (w : World) (at' k : Int) : Calls Try.prog 36 #[.pointer none, .int .i64 at', .int .i64 k] w fun e w' => e = .returned (.tuple #[.pointer none, .int .i64 1]) ∧ w = w' := by
  go_enter Try.func36, Try.ntmps36
  go_wp2_with fail
  go_ret2
  exact ⟨rfl, rfl⟩
theorem new_calls (w : World) (s : Nat) (R : Int) (hR : 0 ≤ R ∧ R ≤ 9223372036854775807) (hs : Calls Try.prog 49 #[.pointer (some ⟨s, 0, none⟩)] w fun e w' => e = .returned (.int .i64 R) ∧ w = w') (at' k : Int) (hk : -9223372036854775808 ≤ k ∧ k ≤ 9223372036854775807) :
    Calls Try.prog 36 #[.pointer (some ⟨s, 0, none⟩), .int .i64 at', .int .i64 k] w (NewPost w s R at' k) := by
  have HS := Lib.hid hs
  have HC := Lib.hid (sectors_calls w k hk)
  clear hs
  by_cases h1 : 1 ≤ k
  · by_cases h2 : k ≤ 8192
    · by_cases h3 : 0 ≤ at'
      · have e1 : decide (k < 1) = false := decide_eq_false (by omega)
        have e2 : decide (8192 < k) = false := decide_eq_false (by omega)
        have e3 : decide (at' < 0) = false := decide_eq_false (by omega)
        have hsec : secI k = (k - 1) / 512 + 1 := by unfold secI; rw [if_neg (by omega)]
        have hw : IntKind.i64.wrap (R - secI k) = R - secI k := IntWalk.i64_in _ (by omega)
        by_cases h4 : at' ≤ R - secI k
        · have e4 : decide (R - secI k < at') = false := decide_eq_false (by omega)
          have g1 : ¬ k < 1 := by omega
          have g2 : ¬ 8192 < k := by omega
          have g3 : ¬ at' < 0 := by omega
          have g4 : ¬ R - secI k < at' := by omega
          go_enter Try.func36, Try.ntmps36
          go_wp2_with fail
          refine HS.out.mono ?_
          rintro e w1 ⟨rfl, rfl⟩
          go_wp2_with fail
          refine HC.out.mono ?_
          rintro e w1 ⟨rfl, rfl⟩
          go_wp2_with fail
          go_ret2
          refine ⟨(Fr.refl [] w).alloc _, ?_⟩
          rw [if_pos (by simp [newOk, h1, h2, h3, h4])]
          exact ⟨w.heap.size, rfl, Nat.le_refl _, by simp, heap_alloc_new w _⟩
        · have g1 : ¬ k < 1 := by omega
          have g2 : ¬ 8192 < k := by omega
          have g3 : ¬ at' < 0 := by omega
          have g4 : R - secI k < at' := by omega
          go_enter Try.func36, Try.ntmps36
          go_wp2_with fail
          refine HS.out.mono ?_
          rintro e w1 ⟨rfl, rfl⟩
          go_wp2_with fail
          refine HC.out.mono ?_
          rintro e w1 ⟨rfl, rfl⟩
          go_wp2_with fail
          go_ret2
          refine ⟨Fr.refl [] w, ?_⟩
          rw [if_neg (by intro hh; simp only [newOk, Bool.and_eq_true, decide_eq_true_eq] at hh; omega)]
          rfl
      · have g1 : ¬ k < 1 := by omega
        have g2 : ¬ 8192 < k := by omega
        have g3 : at' < 0 := by omega
        go_enter Try.func36, Try.ntmps36
        go_wp2_with fail
        go_ret2
        refine ⟨Fr.refl [] w, ?_⟩
        rw [if_neg (by intro hh; simp only [newOk, Bool.and_eq_true, decide_eq_true_eq] at hh; omega)]
        rfl
    · have g1 : ¬ k < 1 := by omega
      have g2 : 8192 < k := by omega
      go_enter Try.func36, Try.ntmps36
      go_wp2_with fail
      go_ret2
      refine ⟨Fr.refl [] w, ?_⟩
      rw [if_neg (by intro hh; simp only [newOk, Bool.and_eq_true, decide_eq_true_eq] at hh; omega)]
      rfl
  · have g1 : k < 1 := by omega
    go_enter Try.func36, Try.ntmps36
    go_wp2_with fail
    go_ret2
    refine ⟨Fr.refl [] w, ?_⟩
    rw [if_neg (by intro hh; simp only [newOk, Bool.and_eq_true, decide_eq_true_eq] at hh; omega)]
    rfl
/-- How many items are in a sector. -/
def itemsI (n : Int) (first : Nat) : Int := min 512 (n - first)
theorem items_calls (w : World) (h s : Nat) (at' n : Int) (hb : MapBox w h s at' n) (first : Nat) (hf : (first : Int) ≤ n) (hn : n ≤ 8192) :
    Calls Try.prog 54 #[.pointer (some ⟨h, 0, none⟩), .int .i64 first] w fun e w' => e = .returned (.int .i64 (itemsI n first)) ∧ w = w' := by
  have hc := box_cell hb
  clear hb
  have h1 : IntKind.i64.wrap (n - first) = n - first := IntWalk.i64_in _ (by omega)
  unfold itemsI
  go_enter Try.func54, Try.ntmps54
  go_wp2_with fail
  all_goals
    go_ret
    refine ⟨?_, rfl⟩
    first
      | rfl
      | (rw [Int.min_eq_right (by omega)]; rfl)
      | (rw [Int.min_eq_left (by omega)]; rfl)
/-- A sector's bytes in a slice, the bit of an item. -/
theorem bit_calls (w : World) (g cap : Nat) (f : Nat → Bool) (i : Nat) (hi : i < 9000000000000000000) (hr : w.rangeAt g 0 (cel (secOf f (i / 512)))) :
    Calls Try.prog 57 #[.slice (some ⟨g, 0, none⟩) 64 cap, .int .i64 i] w fun e w' => e = .returned (.int .i64 (f i).toNat) ∧ w = w' := by
  have hc : w.cell? ⟨g, i % 512 / 8, none⟩ = some (.int .u8 (b8 f (512 * (i / 512) + 8 * (i % 512 / 8)))) := by
    have := hr (i % 512 / 8) _ (secOf_get f (i / 512) (by omega))
    rwa [Nat.zero_add] at this
  have hbit := b8_bit f (512 * (i / 512) + 8 * (i % 512 / 8)) (r := i % 8) (by omega)
  rw [show 512 * (i / 512) + 8 * (i % 512 / 8) + i % 8 = i by omega] at hbit
  have hlt := b8_lt f (512 * (i / 512) + 8 * (i % 512 / 8))
  generalize b8 f (512 * (i / 512) + 8 * (i % 512 / 8)) = x at *
  obtain ⟨r, hr8⟩ : ∃ r : Nat, r = i % 8 := ⟨_, rfl⟩
  obtain ⟨k, hk⟩ : ∃ k : Nat, k = i % 512 / 8 := ⟨_, rfl⟩
  have ei : (0 : Int) ≤ (i : Int) := by omega
  have e0 : (i : Int) % 512 / 8 = (k : Int) := by omega
  have e1 : (i : Int) % 8 = (r : Int) := by omega
  have e2 : (0 : Int) ≤ (i : Int) % 512 := by omega
  have e3 : (r : Int) ≤ 64 := by omega
  have e4 : (0 : Int) ≤ (r : Int) := by omega
  have e5 : (k : Int) < 64 := by omega
  have e6 : (0 : Int) ≤ (k : Int) := by omega
  have e7 : IntKind.i64.wrap (x : Int) = x := IntWalk.i64_in _ (by omega)
  have e8 : ((k : Int)).toNat = k := by omega
  rw [← hk] at hc
  rw [← hr8] at hbit
  clear hr hk hr8
  go_enter Try.func57, Try.ntmps57
  go_wp2_with fail
  go_ret
  refine ⟨?_, rfl⟩
  have e9 : bits .and .i64 ((x : Int) / 2 ^ r) 1 = ((f i).toNat : Int) := by
    rw [mask1, ← hbit]
    rw [Int.natCast_emod, Int.natCast_ediv, Int.natCast_pow]
    rfl
  rw [← e9]
  rfl
end Go.Proofs.Ytoifpbifipgpkaa
namespace Go.Proofs.Ytoifpbifipgpkaa
open Go.RowKit Go.MapKept
/-- What leastFree finds in sector j. -/
def Least (f : Nat → Bool) (j : Nat) (e : Ending) : Prop := ∃ x : Nat, e = .returned (.int .i64 x) ∧ x ≤ 512 ∧ (∀ y, y < x → f (512 * j + y) = true) ∧ (x < 512 → f (512 * j + x) = false)
set_option maxRecDepth 100000 in
set_option maxHeartbeats 1000000 in
theorem least_calls (w : World) (g cap : Nat) (f : Nat → Bool) (j : Nat) (hj : j ≤ 16) (hr : w.rangeAt g 0 (cel (secOf f j))) :
    Calls Try.prog 53 #[.slice (some ⟨g, 0, none⟩) 64 cap] w fun e w' => Least f j e ∧ w = w' := by
  have HC : Hid (∀ k : Nat, k < 64 → w.cell? ⟨g, k, none⟩ = some (.int .u8 (b8 f (512 * j + 8 * k)))) := Lib.hid (fun k hk => by
    have := hr k _ (secOf_get f j hk)
    rwa [Nat.zero_add] at this)
  have HB : Hid (∀ i : Nat, i < 512 → Calls Try.prog 57 #[.slice (some ⟨g, 0, none⟩) 64 cap, .int .i64 i] w fun e w' => e = .returned (.int .i64 (f (512 * j + i)).toNat) ∧ w = w') := Lib.hid (fun i hi => by
    have h1 : (fun y => f (512 * j + y)) i = f (512 * j + i) := rfl
    have h2 : secOf (fun y => f (512 * j + y)) (i / 512) = secOf f j := by
      rw [show i / 512 = 0 by omega]
      unfold secOf
      refine List.map_congr_left fun k _ => ?_
      unfold b8
      simp only [Nat.mul_zero, Nat.zero_add, Nat.add_assoc]
    have := bit_calls w g cap (fun y => f (512 * j + y)) i (by omega) (by rw [h2]; exact hr)
    exact this)
  clear hr
  go_enter Try.func53, Try.ntmps53
  go_wp2_with fail
  go_loopw [3] (fun v3 wr => ∃ c : Nat, (c ≤ 512 ∧ c % 8 = 0) ∧ v3 = .int .i64 c ∧ w = wr ∧ ∀ y, y < c → f (512 * j + y) = true) (fun v3 _ => 1000 - (intOf v3).toNat)
  case atStart => exact ⟨0, by omega, rfl, rfl, fun y hy => by omega⟩
  case round =>
    obtain ⟨c, ⟨hc1, hc8⟩, rfl, rfl, hall⟩ := hrel
    have hw1 : IntKind.i64.wrap ((c : Int) + 8) = (c : Int) + 8 := IntWalk.i64_in _ (by omega)
    have HALL := Lib.hid hall
    clear hall
    by_cases h64 : c < 512
    · obtain ⟨k, hk⟩ : ∃ k : Nat, c = 8 * k := ⟨c / 8, by omega⟩
      have hc := HC.out k (by omega)
      rw [← hk] at hc
      have i0 : (c : Int) / 8 = (k : Int) := by omega
      have i1 : (c : Int) < 512 := by omega
      have i2 : (0 : Int) ≤ (c : Int) := by omega
      have i3 : (k : Int) < 64 := by omega
      have i4 : (0 : Int) ≤ (k : Int) := by omega
      have i5 : ((k : Int)).toNat = k := by omega
      have hlt := b8_lt f (512 * j + c)
      have hfull := b8_full f (512 * j + c)
      obtain ⟨x, hx⟩ : ∃ x, b8 f (512 * j + c) = x := ⟨_, rfl⟩
      rw [hx] at hc hlt hfull
      clear hx hk
      by_cases h255 : x = 255
      · subst h255
        have HF := Lib.hid (hfull.1 rfl)
        clear hfull
        go_wp2_with fail
        go_roundw
        case rel =>
          refine ⟨c + 8, by omega, by go_num, trivial, fun y hy => ?_⟩
          by_cases hy2 : y < c
          · exact HALL.out y hy2
          · have := HF.out (y - c) (by omega)
            rwa [show 512 * j + c + (y - c) = 512 * j + y by omega] at this
        case measure => simp [intOf]; omega
      · have h255' : ((x : Int) == 255) = false := beq_eq_false_iff_ne.2 (by omega)
        clear hfull
        go_wp2_with fail
        go_loopw [3] (fun v3 wr => ∃ c : Nat, c ≤ 512 ∧ v3 = .int .i64 c ∧ w = wr ∧ ∀ y, y < c → f (512 * j + y) = true) (fun v3 _ => 1000 - (intOf v3).toNat)
        case atStart => exact ⟨c, by omega, rfl, rfl, HALL.out⟩
        case round =>
          obtain ⟨d, hd1, rfl, rfl, hall⟩ := hrel
          have hw2 : IntKind.i64.wrap ((d : Int) + 1) = (d : Int) + 1 := IntWalk.i64_in _ (by omega)
          have HAL2 := Lib.hid hall
          clear hall HALL
          by_cases h64 : d < 512
          · have j1 : (d : Int) < 512 := by omega
            have hb := HB.out d h64
            obtain ⟨x, hx⟩ : ∃ x, f (512 * j + d) = x := ⟨_, rfl⟩
            rw [hx] at hb
            have HX := Lib.hid hx
            have HBB := Lib.hid hb
            clear hx hb
            cases x with
            | true =>
              go_wp2_with fail
              refine HBB.out.mono ?_
              rintro e w1 ⟨rfl, rfl⟩
              go_wp2_with fail
              go_roundw
              case rel =>
                refine ⟨d + 1, by omega, by go_num, trivial, fun y hy => ?_⟩
                by_cases hy2 : y < d
                · exact HAL2.out y hy2
                · obtain rfl : y = d := by omega
                  exact HX.out
              case measure => simp [intOf]; omega
            | false =>
              go_wp2_with fail
              refine HBB.out.mono ?_
              rintro e w1 ⟨rfl, rfl⟩
              go_wp2_with fail
              go_ret
              exact ⟨⟨d, rfl, by omega, HAL2.out, fun _ => HX.out⟩, rfl⟩
          · obtain rfl : d = 512 := by omega
            go_wp2_with fail
            go_ret
            exact ⟨⟨512, rfl, by omega, HAL2.out, fun h => by omega⟩, rfl⟩
    · obtain rfl : c = 512 := by omega
      go_wp2_with fail
      go_loopw [3] (fun v3 wr => ∃ c : Nat, c ≤ 512 ∧ v3 = .int .i64 c ∧ w = wr ∧ ∀ y, y < c → f (512 * j + y) = true) (fun v3 _ => 1000 - (intOf v3).toNat)
      case atStart => exact ⟨512, by omega, rfl, rfl, HALL.out⟩
      case round =>
        obtain ⟨d, hd1, rfl, rfl, hall⟩ := hrel
        have hw2 : IntKind.i64.wrap ((d : Int) + 1) = (d : Int) + 1 := IntWalk.i64_in _ (by omega)
        have HAL2 := Lib.hid hall
        clear hall HALL
        by_cases h64 : d < 512
        · have j1 : (d : Int) < 512 := by omega
          have hb := HB.out d h64
          obtain ⟨x, hx⟩ : ∃ x, f (512 * j + d) = x := ⟨_, rfl⟩
          rw [hx] at hb
          have HX := Lib.hid hx
          have HBB := Lib.hid hb
          clear hx hb
          cases x with
          | true =>
            go_wp2_with fail
            refine HBB.out.mono ?_
            rintro e w1 ⟨rfl, rfl⟩
            go_wp2_with fail
            go_roundw
            case rel =>
              refine ⟨d + 1, by omega, by go_num, trivial, fun y hy => ?_⟩
              by_cases hy2 : y < d
              · exact HAL2.out y hy2
              · obtain rfl : y = d := by omega
                exact HX.out
            case measure => simp [intOf]; omega
          | false =>
            go_wp2_with fail
            refine HBB.out.mono ?_
            rintro e w1 ⟨rfl, rfl⟩
            go_wp2_with fail
            go_ret
            exact ⟨⟨d, rfl, by omega, HAL2.out, fun _ => HX.out⟩, rfl⟩
        · obtain rfl : d = 512 := by omega
          go_wp2_with fail
          go_ret
          exact ⟨⟨512, rfl, by omega, HAL2.out, fun h => by omega⟩, rfl⟩
end Go.Proofs.Ytoifpbifipgpkaa
namespace Go.Proofs.Ytoifpbifipgpkaa
open Go.RowKit Go.MapKept
theorem Bytes64.range {w : World} {B : Nat} {x : Value} {T : List UInt8} (h : Bytes64 w B x T) : ∃ g cap, x = .slice (some ⟨g, 0, none⟩) 64 cap ∧ B ≤ g ∧ g < w.heap.size ∧ w.rangeAt g 0 (cel T) ∧ ∃ cur t, w.heap[g]? = some (.cells cur t (0, 0)) ∧ cur.toList.take 64 = cel T := by
  obtain ⟨g, cap, cur, t, rfl, hg, hb, _, ht⟩ := h
  refine ⟨g, cap, rfl, hg, lt_of_heap hb, fun j v hv => ?_, cur, t, hb, ht⟩
  rw [box_cell hb, Nat.zero_add]
  have : (cur.toList.take 64)[j]? = some v := by rw [ht]; exact hv
  rw [List.getElem?_take] at this
  split at this
  · simpa using this
  · cases this
section
variable {w : World} {bs : List Nat} {s p l m nd q : Nat} {b : Int} {S : Sv} {h : Nat} {at' n : Nat}
/-- What a read of sector j of a map makes. -/
def ReadPost (w : World) (bs : List Nat) (s p l m nd q : Nat) (b : Int) (S : Sv) (k : Nat) (e : Ending) (w' : World) : Prop :=
  ∃ x c, e = .returned (.tuple #[x, .int .i64 0]) ∧ Fr bs w w' ∧ StAt w' bs s p l m nd q (b + 1) (S.asked c) ∧ Bytes64 w' w.heap.size x (S.tell k)
set_option maxRecDepth 100000 in
set_option maxHeartbeats 1000000 in
theorem aread_calls (hst : StAt w bs s p l m nd q b S) (hg : S.gone = false) (hv : S.v.d = false) (hm : MapBox w h s at' n) (hh : h ∉ bs) (i : Nat) (hi : at' + i / 512 + 300 < nd) (hb : b < 9000000000000000000) (hi2 : i ≤ 8192) :
    Calls Try.prog 52 #[.pointer (some ⟨h, 0, none⟩), .int .i64 i] w (ReadPost w bs s p l m nd q b S (at' + i / 512)) := by
  have hfd : Fr [] w w.drew := (Fr.refl [] w).drew
  have hrd := st_read (hst.keep hfd (by simp)) hg hv (at' + i / 512) (by omega) hb
  have hnb := hst.dev.at_.nb
  have HS : Hid (∀ W, Fr bs w W → W.cell? ⟨h, 0, none⟩ = some (.pointer (some ⟨s, 0, none⟩)) ∧ W.cell? ⟨h, 1, none⟩ = some (.int .i64 at')) := Lib.hid (fun W hW => by
    have := hW.keep hm hh
    exact ⟨(box_cell this 0).trans rfl, (box_cell this 1).trans rfl⟩)
  obtain ⟨k, hk⟩ : ∃ k : Nat, k = at' + i / 512 := ⟨_, rfl⟩
  have e0 : (0 : Int) ≤ (i : Int) := by omega
  have e2 : IntKind.i64.wrap ((i : Int) / 512) = (i : Int) / 512 := IntWalk.i64_in _ (by omega)
  have e1 : IntKind.i64.wrap ((at' : Int) + (i : Int) / 512) = (k : Int) := by
    have : (at' : Int) + (i : Int) / 512 = (k : Int) := by omega
    rw [this]; exact IntWalk.i64_in _ (by omega)
  rw [← hk] at hrd ⊢
  have HRD := Lib.hid hrd
  clear hrd hst hm hk hi
  go_enter Try.func52, Try.ntmps52
  go_wp2_with fail
  have hq : Fr bs w w.drew := (Fr.refl bs w).drew
  have hc0 := HS.out _ hq
  obtain ⟨hc1, hc2⟩ := hc0
  go_region_held3 (fun w' => w'.cell? ⟨h, 0, none⟩ = some (.pointer (some ⟨s, 0, none⟩)) ∧ w'.cell? ⟨h, 1, none⟩ = some (.int .i64 at'))
    (exact HS.out _ hq)
    (first | (go_at_call 20; (with_reducible refine HRD.out.mono ?_); rintro e w1 ⟨x, c, rfl, hf1, hst1, hx1⟩; have hq := hq.trans hf1; have HST1 := Lib.hid hst1; have HX1 := Lib.hid hx1; clear hst1 hx1 hf1))
  all_goals
    go_wp2_with fail
    go_ret2
    exact ⟨x, c, rfl, hq, HST1.out, HX1.out⟩
theorem areadOf_none (hm : MapBox w h s at' n) (i : Int) (hi : i < 0 ∨ n ≤ i) :
    Calls Try.prog 56 #[.pointer (some ⟨h, 0, none⟩), .int .i64 i] w fun e w' => e = .returned (.tuple #[.slice none 0 0, .int .i64 1]) ∧ w = w' := by
  have hc := box_cell hm
  clear hm
  by_cases h0 : i < 0
  · go_enter Try.func56, Try.ntmps56
    go_wp2_with fail
    go_ret2
    exact ⟨rfl, rfl⟩
  · have h1 : (n : Int) ≤ i := by omega
    go_enter Try.func56, Try.ntmps56
    go_wp2_with fail
    go_ret2
    exact ⟨rfl, rfl⟩
theorem areadOf_calls (hst : StAt w bs s p l m nd q b S) (hg : S.gone = false) (hv : S.v.d = false) (hm : MapBox w h s at' n) (hh : h ∉ bs) (i : Nat) (hin : i < n) (hi : at' + i / 512 + 300 < nd) (hb : b < 9000000000000000000) (hi2 : i ≤ 8192) :
    Calls Try.prog 56 #[.pointer (some ⟨h, 0, none⟩), .int .i64 i] w (ReadPost w bs s p l m nd q b S (at' + i / 512)) := by
  have HR := Lib.hid (aread_calls hst hg hv hm hh i hi hb hi2)
  have hc := box_cell hm
  have h0 : ¬ (i : Int) < 0 := by omega
  have h1 : (i : Int) < (n : Int) := by omega
  clear hm hst
  go_enter Try.func56, Try.ntmps56
  go_wp2_with fail
  refine HR.out.mono ?_
  rintro e w1 ⟨x, c, rfl, hf, hst1, hx1⟩
  have HF := Lib.hid hf; have HST1 := Lib.hid hst1; have HX1 := Lib.hid hx1
  clear hf hst1 hx1
  go_wp2_with fail
  go_ret2
  exact ⟨x, c, rfl, HF.out, HST1.out, HX1.out⟩
/-- What a write of a sector makes of a store. -/
def Sv.put' (S : Sv) (i : Nat) (x : List UInt8) : Sv := { S with U := wrote S.U i x, k := if (S.U i).isSome then S.k else S.k + 1 }
set_option maxRecDepth 100000 in
set_option maxHeartbeats 1000000 in
theorem turn_calls (hst : StAt w bs s p l m nd q b S) (hg : S.gone = false) (hv : S.v.d = false) (hm : MapBox w h s at' n) (hh : h ∉ bs) (i : Nat) (hi : at' + i / 512 + 300 < nd) (hi2 : i ≤ 8192)
    (g cap : Nat) (cur : Array Value) (t : TypeId) (f : Nat → Bool) (hgb : w.heap[g]? = some (.cells cur t (0, 0))) (htk : cur.toList.take 64 = cel (secOf f (i / 512))) (hgs : g ∉ bs) (hgh : g ≠ h) (hroom : (S.U ((at' + i / 512 : Nat) : Int)).isSome = true ∨ S.k < 128) :
    Calls Try.prog 55 #[.pointer (some ⟨h, 0, none⟩), .slice (some ⟨g, 0, none⟩) 64 cap, .int .i64 i] w fun e w' => e = .returned (.int .i64 0) ∧ Fr (g :: bs) w w' ∧ StAt w' bs s p l m nd q b (S.put' (at' + i / 512) (secOf (flip f i) (i / 512))) := by
  have hnb := hst.dev.at_.nb
  obtain ⟨k, hk⟩ : ∃ k : Nat, at' + i / 512 = k := ⟨_, rfl⟩
  rw [hk] at hi hroom ⊢
  have f2 : IntKind.i64.wrap ((i : Int) / 512) = (i : Int) / 512 := IntWalk.i64_in _ (by omega)
  have f1 : IntKind.i64.wrap ((at' : Int) + (i : Int) / 512) = (k : Int) := by
    rw [show (at' : Int) + (i : Int) / 512 = (k : Int) by omega]; exact IntWalk.i64_in _ (by omega)
  obtain ⟨kk, hkk⟩ : ∃ kk : Nat, kk = i % 512 / 8 := ⟨_, rfl⟩
  obtain ⟨r, hr8⟩ : ∃ r : Nat, r = i % 8 := ⟨_, rfl⟩
  have hcl : (cur.toList.take 64).length = 64 := by rw [htk, secOf_cel_len]
  have hsz : 64 ≤ cur.size := by rw [List.length_take] at hcl; simp at hcl; omega
  obtain ⟨x0, hx0⟩ : ∃ x0, b8 f (512 * (i / 512) + 8 * kk) = x0 := ⟨_, rfl⟩
  have hc : w.cell? ⟨g, kk, none⟩ = some (.int .u8 x0) := by
    rw [box_cell hgb]
    have h1 : (cur.toList.take 64)[kk]? = some (.int .u8 x0) := by rw [htk, secOf_get f (i / 512) (by omega), hx0]
    rw [List.getElem?_take_of_lt (by omega)] at h1
    simpa using h1
  have hfz : w.frozen? ⟨g, kk, none⟩ = false := box_free hgb kk
  have hflip := b8_flip f (512 * (i / 512) + 8 * kk) (r := r) (by omega)
  rw [show 512 * (i / 512) + 8 * kk + r = i by omega, hx0] at hflip
  obtain ⟨x1, hx1⟩ : ∃ x1, b8 (flip f i) (512 * (i / 512) + 8 * kk) = x1 := ⟨_, rfl⟩
  rw [hx1] at hflip
  -- the sector's bytes behind the store
  have hset : (cur.set! kk (.int .u8 x1)).toList.take 64 = cel (secOf (flip f i) (i / 512)) := by
    rw [← secOf_flip f i, ← hkk, hx1, ← htk]
    refine List.ext_getElem? fun j => ?_
    rw [List.getElem?_set, List.getElem?_take, List.getElem?_take, hcl]
    by_cases hj : j < 64
    · simp only [hj, if_true]
      by_cases e : kk = j
      · subst e
        simp [hj, show kk < cur.size by omega]
      · simp [e, Array.getElem?_setIfInBounds]
    · simp [hj]
      intro e; omega
  have ei : (0 : Int) ≤ (i : Int) := by omega
  have e0 : (i : Int) % 512 / 8 = (kk : Int) := by omega
  have e1 : (i : Int) % 8 = (r : Int) := by omega
  have e2 : (0 : Int) ≤ (i : Int) % 512 := by omega
  have e3 : (r : Int) ≤ 8 := by omega
  have e4 : (0 : Int) ≤ (r : Int) := by omega
  have e5 : (kk : Int) < 64 := by omega
  have e6 : (0 : Int) ≤ (kk : Int) := by omega
  have e8 : ((kk : Int)).toNat = kk := by omega
  have e9 : IntKind.i64.wrap (kk : Int) = kk := IntWalk.i64_in _ (by omega)
  have HI := Lib.hid hi; have HST := Lib.hid hst; have HM := Lib.hid hm; have HSET := Lib.hid hset; have HG := Lib.hid hgb
  clear hkk hr8 hk hi hst hm hset hgb hx0 hx1 htk hcl
  have hp : (2 : Int) ^ r % 256 = ((2 ^ r : Nat) : Int) := by
    have h1 : 2 ^ r < 256 := by
      have : 2 ^ r < 2 ^ 8 := Nat.pow_lt_pow_right (by decide) (by omega)
      exact this
    rw [Int.natCast_pow]
    refine Int.emod_eq_of_lt (Int.pow_nonneg (by decide)) ?_
    have : ((2 ^ r : Nat) : Int) < 256 := by omega
    rwa [Int.natCast_pow] at this
  have hx : bits .xor .u8 (x0 : Int) ((2 : Int) ^ r % 256) = (x1 : Int) := by rw [hp]; exact hflip
  clear hp hflip
  go_enter Try.func55, Try.ntmps55
  go_wp2_with fail
  go_region
  clear hx hc hfz
  have hb1 : (w.setCell ⟨g, kk, none⟩ (.int .u8 x1)).drew.heap[g]? = some (.cells (cur.setIfInBounds kk (.int .u8 x1)) t (0, 0)) := box_set HG.out kk _
  have hF1 : Fr [g] w (w.setCell ⟨g, kk, none⟩ (.int .u8 x1)).drew := ((Fr.refl [g] w).setCell (.inl (by simp)) _).drew
  generalize (w.setCell ⟨g, kk, none⟩ (.int .u8 x1)).drew = W at *
  have hst1 := HST.out.keep (hF1.drew) (by simpa using hgs)
  have hr1 : W.drew.rangeAt g 0 (cel (secOf (flip f i) (i / 512))) := fun j v hv => by
    have hbd : W.drew.heap[g]? = _ := hb1
    rw [box_cell hbd, Nat.zero_add]
    have : ((cur.setIfInBounds kk (.int .u8 x1)).toList.take 64)[j]? = some v := (congrArg (·[j]?) HSET.out).trans hv
    rw [List.getElem?_take] at this
    split at this
    · rw [← Array.getElem?_toList]; exact this
    · cases this
  have hwr := st_write hst1 hg hv k HI.out g 0 cap _ (secOf_len _ _) hr1 hgs hroom
  have HS : Hid (∀ V, Fr bs W V → V.cell? ⟨h, 0, none⟩ = some (.pointer (some ⟨s, 0, none⟩)) ∧ V.cell? ⟨h, 1, none⟩ = some (.int .i64 at')) := Lib.hid (fun V hV => by
    have := hV.keep (hF1.keep HM.out (by simpa using fun e => hgh e.symm)) hh
    exact ⟨(box_cell this 0).trans rfl, (box_cell this 1).trans rfl⟩)
  have HWR := Lib.hid hwr; have HF1 := Lib.hid hF1
  clear hwr hst1 hr1 hb1 hF1 HSET HG HI HST HM
  go_wp2_with fail
  have hq : Fr bs W W.drew := (Fr.refl bs W).drew
  obtain ⟨hc1, hc2⟩ := HS.out _ hq
  go_region_held3 (fun w' => w'.cell? ⟨h, 0, none⟩ = some (.pointer (some ⟨s, 0, none⟩)) ∧ w'.cell? ⟨h, 1, none⟩ = some (.int .i64 at'))
    (exact HS.out _ hq)
    (first | (go_at_call 13; (with_reducible refine HWR.out.mono ?_); rintro e w1 ⟨rfl, hf1, hst1⟩; have hq := hq.trans hf1; have HST1 := Lib.hid hst1; clear hst1 hf1))
  all_goals
    go_wp2_with fail
    go_ret
    exact ⟨rfl, (HF1.out.mono (by simp)).trans (hq.mono (by simp +contextual)), HST1.out⟩
end
end Go.Proofs.Ytoifpbifipgpkaa
namespace Go.Proofs.Ytoifpbifipgpkaa
open Go.RowKit Go.MapKept
theorem asked_same (S : Sv) : S.asked S.v.c = S := rfl
theorem asked_tell (S : Sv) (c : Int) (i : Nat) : (S.asked c).tell i = S.tell i := rfl
theorem asked_asked (S : Sv) (c c' : Int) : (S.asked c).asked c' = S.asked c' := rfl
/-- The sectors of a map of n items at at' are what f says. -/
def MapTold (S : Sv) (at' n : Nat) (f : Nat → Bool) : Prop := ∀ j, 512 * j < n → S.tell (at' + j) = secOf f j
def TakePost (w : World) (bs : List Nat) (s p l m nd q : Nat) (b : Int) (S : Sv) (at' n : Nat) (f : Nat → Bool) (e : Ending) (w' : World) : Prop :=
  Fr bs w w' ∧ ∃ c : Int, (∃ x : Nat, x < n ∧ (∀ y, y < x → f y = true) ∧ f x = false ∧ e = .returned (.tuple #[.int .i64 x, .int .i64 0]) ∧ StAt w' bs s p l m nd q (b + 17) ((S.asked c).put' (at' + x / 512) (secOf (flip f x) (x / 512)))) ∨
    ((∀ y, y < n → f y = true) ∧ e = .returned (.tuple #[.int .i64 0, .int .i64 60]) ∧ StAt w' bs s p l m nd q (b + 17) (S.asked c))
section
variable {w : World} {bs : List Nat} {s p l m nd q : Nat} {b : Int} {S : Sv} {h : Nat} {at' n : Nat}
set_option maxRecDepth 100000 in
set_option maxHeartbeats 2000000 in
theorem take_calls (hst : StAt w bs s p l m nd q b S) (hg : S.gone = false) (hv : S.v.d = false) (hm : MapBox w h s at' n) (hh : h ∉ bs) (hbl : ∀ x ∈ bs, x < w.heap.size) (hn : n ≤ 8192) (hi : at' + (n - 1) / 512 + 300 < nd) (hb : b < 8000000000000000000)
    (f : Nat → Bool) (hf : MapTold S at' n f) (hroom : ∀ j, 512 * j < n → (S.U ((at' + j : Nat) : Int)).isSome = true ∨ S.k < 128) :
    Calls Try.prog 31 #[.pointer (some ⟨h, 0, none⟩)] w (TakePost w bs s p l m nd q b S at' n f) := by
  have HM := Lib.hid hm; have HST := Lib.hid hst; have HBL := Lib.hid hbl; have HT := Lib.hid hf; have HR := Lib.hid hroom
  have hlth := lt_of_heap hm
  clear hm hst hbl hf hroom
  go_enter Try.func31, Try.ntmps31
  go_wp2_with fail
  go_loopw [4] (fun v4 wr => ∃ (j : Nat) (c : Int), (512 * j ≤ 8704 ∧ j ≤ 17) ∧ v4 = .int .i64 ((512 * j : Nat) : Int) ∧ Fr bs w wr ∧ StAt wr bs s p l m nd q (b + j) (S.asked c) ∧ ∀ y, y < 512 * j → y < n → f y = true) (fun v4 _ => 10000 - (intOf v4).toNat)
  case atStart => exact ⟨0, S.v.c, by omega, rfl, Fr.refl _ _, by rw [asked_same]; exact HST.out.more (by omega), fun y hy => by omega⟩
  case round =>
    rename World => wr
    obtain ⟨j, c, hj, rfl, hfr, hst, hall⟩ := hrel
    have hmr := hfr.keep HM.out hh
    have hcm := box_cell hmr
    have HA := Lib.hid hall
    clear hall
    obtain ⟨F, hF⟩ : ∃ F : Nat, 512 * j = F := ⟨_, rfl⟩
    have hw1 : IntKind.i64.wrap (((512 * j : Nat) : Int) + 512) = ((512 * (j + 1) : Nat) : Int) := by rw [show ((512 * j : Nat) : Int) + 512 = ((512 * (j + 1) : Nat) : Int) by omega]; exact IntWalk.i64_in _ (by omega)
    rw [hF] at hw1 ⊢
    by_cases hlt : F < n
    · have hlt' : (F : Int) < (n : Int) := by omega
      have hj2 : F / 512 = j := by omega
      have HRD := Lib.hid (aread_calls hst hg hv hmr hh F (by omega) (by omega) (by omega))
      have HIT := Lib.hid (fun W (hW : MapBox W h s at' n) => items_calls W h s at' n hW F (by omega) (by omega))
      rw [hj2] at HRD
      have HFR := Lib.hid hfr; have HMR := Lib.hid hmr
      clear hfr hst hmr
      go_wp2_with fail
      refine HRD.out.mono ?_
      rintro e w1 ⟨x, c1, rfl, hf1, hst1, hx1⟩
      obtain ⟨g, cap, rfl, hg1, hg2, hr1, cur, t, hb1, ht1⟩ := hx1.range
      rw [asked_tell, HT.out j (by omega)] at hr1 ht1
      rw [asked_asked] at hst1
      have HL := Lib.hid (least_calls w1 g cap f j (by omega) hr1)
      have hm1 := hf1.keep HMR.out hh
      have HI1 := Lib.hid (HIT.out w1 hm1)
      have hsz := HFR.out.size
      have hgs : g ∉ bs := fun hx => by have := HBL.out g hx; omega
      have HTU := Lib.hid (fun (y : Nat) (hy : y / 512 = j) (hy2 : y < n) => turn_calls hst1 hg hv hm1 hh y (by omega) (by omega) g cap cur t f hb1 (by rw [hy]; exact ht1) hgs (by omega) (by rw [hy]; exact HR.out j (by omega)))
      have HF1 := Lib.hid (HFR.out.trans hf1); have HST1 := Lib.hid hst1
      clear hf1 hst1 hx1 hr1 hb1 ht1 hm1 HRD HIT
      go_wp2_with fail
      refine HL.out.mono ?_
      rintro e w2 ⟨⟨x, rfl, hx512, hxt, hxf⟩, rfl⟩
      have HXT := Lib.hid hxt; have HXF := Lib.hid hxf
      clear hxt hxf HL
      go_wp2_with fail
      refine HI1.out.mono ?_
      rintro e w2 ⟨rfl, rfl⟩
      have hit : itemsI n F = ((min 512 (n - F) : Nat) : Int) := by unfold itemsI; omega
      rw [hit]
      obtain ⟨I, hI⟩ : ∃ I, min 512 (n - F) = I := ⟨_, rfl⟩
      rw [hI]
      have hI2 : I ≤ 512 ∧ F + I ≤ n ∧ (I = 512 ∨ F + I = n) := by omega
      clear hI hit HI1
      by_cases hxi : x < I
      · have hxi' : (x : Int) < (I : Int) := by omega
        have hxi0 := HXF.out (by omega)
        have hw3 : IntKind.i64.wrap ((F : Int) + x) = ((F + x : Nat) : Int) := by rw [show (F : Int) + x = ((F + x : Nat) : Int) by omega]; exact IntWalk.i64_in _ (by omega)
        have htu := HTU.out (F + x) (by omega) (by omega)
        rw [show (F + x) / 512 = j by omega] at htu
        have HT2 := Lib.hid htu
        have HX0 := Lib.hid hxi0
        clear htu hxi0 HTU
        go_wp2_with fail
        refine HT2.out.mono ?_
        rintro e w3 ⟨rfl, hf3, hst3⟩
        have HF3 : Hid (Fr bs w w3) := Lib.hid (HF1.out.trans_new hf3 (fun z hz => by
          rcases List.mem_cons.1 hz with rfl | hz
          · exact .inr (by omega)
          · exact .inl hz))
        have HS3 := Lib.hid hst3
        clear hf3 hst3 HT2
        go_wp2_with fail
        go_ret2
        refine ⟨HF3.out, c1, .inl ⟨F + x, by omega, fun y hy => ?_, by rw [← hF]; exact HX0.out, rfl, ?_⟩⟩
        · by_cases hy2 : y < F
          · exact HA.out y (by omega) (by omega)
          · have := HXT.out (y - F) (by omega)
            rwa [show 512 * j + (y - F) = y by omega] at this
        · rw [show (F + x) / 512 = j by omega]
          exact HS3.out.more (by omega)
      · have hxi' : ¬ (x : Int) < (I : Int) := by omega
        clear HTU
        go_wp2_with fail
        go_roundw
        case rel =>
          refine ⟨j + 1, c1, by omega, by go_num, HF1.out, HST1.out.more (by omega), fun y hy hyn => ?_⟩
          by_cases hy2 : y < F
          · exact HA.out y (by omega) hyn
          · have := HXT.out (y - F) (by omega)
            rwa [show 512 * j + (y - F) = y by omega] at this
        case measure => simp [intOf]; omega
    · have hlt' : ¬ (F : Int) < (n : Int) := by omega
      have HFR := Lib.hid hfr; have HS3 := Lib.hid hst
      clear hfr hst
      go_wp2_with fail
      go_ret2
      exact ⟨HFR.out, c, .inr ⟨fun y hy => HA.out y (by omega) hy, rfl, HS3.out.more (by omega)⟩⟩
end
end Go.Proofs.Ytoifpbifipgpkaa
namespace Go.Proofs.Ytoifpbifipgpkaa
open Go.RowKit Go.MapKept
def GivePost (w : World) (bs : List Nat) (s p l m nd q : Nat) (b : Int) (S : Sv) (at' n : Nat) (f : Nat → Bool) (i : Int) (e : Ending) (w' : World) : Prop :=
  Fr bs w w' ∧ ∃ c : Int, (∃ x : Nat, i = x ∧ x < n ∧ f x = true ∧ e = .returned (.int .i64 0) ∧ StAt w' bs s p l m nd q (b + 1) ((S.asked c).put' (at' + x / 512) (secOf (flip f x) (x / 512)))) ∨
    ((∀ x : Nat, i = x → x < n → f x = false) ∧ e = .returned (.int .i64 1) ∧ StAt w' bs s p l m nd q (b + 1) (S.asked c))
def isIn (i : Int) (n : Nat) : Bool := decide (0 ≤ i) && decide (i < n)
def TakenPost (w : World) (bs : List Nat) (s p l m nd q : Nat) (b : Int) (S : Sv) (n : Nat) (f : Nat → Bool) (i : Int) (e : Ending) (w' : World) : Prop :=
  Fr bs w w' ∧ ∃ c : Int, StAt w' bs s p l m nd q (b + 1) (S.asked c) ∧ e = .returned (.tuple #[.bool (isIn i n && f i.toNat), .int .i64 (if isIn i n = true then 0 else 1)])
/-- How many of the first are taken. -/
def cntB (f : Nat → Bool) : Nat → Nat | 0 => 0 | k + 1 => cntB f k + (f k).toNat
theorem cntB_le (f : Nat → Bool) : ∀ k, cntB f k ≤ k
  | 0 => Nat.le_refl _
  | k + 1 => by
    have := cntB_le f k
    have : (f k).toNat ≤ 1 := Bool.toNat_le _
    simp only [cntB]; omega
def CountPost (w : World) (bs : List Nat) (s p l m nd q : Nat) (b : Int) (S : Sv) (n : Nat) (f : Nat → Bool) (e : Ending) (w' : World) : Prop :=
  Fr bs w w' ∧ ∃ c : Int, StAt w' bs s p l m nd q (b + 17) (S.asked c) ∧ e = .returned (.tuple #[.int .i64 (cntB f n), .int .i64 0])
section
variable {w : World} {bs : List Nat} {s p l m nd q : Nat} {b : Int} {S : Sv} {h : Nat} {at' n : Nat}
set_option maxRecDepth 100000 in
set_option maxHeartbeats 2000000 in
theorem give_calls (hst : StAt w bs s p l m nd q b S) (hg : S.gone = false) (hv : S.v.d = false) (hm : MapBox w h s at' n) (hh : h ∉ bs) (hbl : ∀ x ∈ bs, x < w.heap.size) (hn : n ≤ 8192) (hi : at' + (n - 1) / 512 + 300 < nd) (hb : b < 8000000000000000000)
    (f : Nat → Bool) (hf : MapTold S at' n f) (hroom : ∀ j, 512 * j < n → (S.U ((at' + j : Nat) : Int)).isSome = true ∨ S.k < 128) (i : Int) :
    Calls Try.prog 32 #[.pointer (some ⟨h, 0, none⟩), .int .i64 i] w (GivePost w bs s p l m nd q b S at' n f i) := by
  by_cases hin : 0 ≤ i ∧ i < n
  · obtain ⟨x, rfl⟩ : ∃ x : Nat, i = x := ⟨i.toNat, by omega⟩
    have hx : x < n := by omega
    have HRD := Lib.hid (areadOf_calls hst hg hv hm hh x hx (by omega) (by omega) (by omega))
    have HM := Lib.hid hm; have HBL := Lib.hid hbl; have HR := Lib.hid (hroom (x / 512) (by omega)); have HT := Lib.hid (hf (x / 512) (by omega))
    have hlth := lt_of_heap hm
    clear hm hbl hroom hf hst
    go_enter Try.func32, Try.ntmps32
    go_wp2_with fail
    refine HRD.out.mono ?_
    rintro e w1 ⟨y, c1, rfl, hf1, hst1, hx1⟩
    obtain ⟨g, cap, rfl, hg1, hg2, hr1, cur, t, hb1, ht1⟩ := hx1.range
    rw [HT.out] at hr1 ht1
    have hm1 := hf1.keep HM.out hh
    have hgs : g ∉ bs := fun hx => by have := HBL.out g hx; omega
    have hbit := bit_calls w1 g cap f x (by omega) hr1
    obtain ⟨fx, hfx⟩ : ∃ fx, f x = fx := ⟨_, rfl⟩
    rw [hfx] at hbit
    have HB := Lib.hid hbit; have HFX := Lib.hid hfx
    have HTU := Lib.hid (turn_calls hst1 hg hv hm1 hh x (by omega) (by omega) g cap cur t f hb1 ht1 hgs (by omega) HR.out)
    have HF1 := Lib.hid hf1; have HST1 := Lib.hid hst1
    clear hf1 hst1 hx1 hr1 hb1 ht1 hm1 HRD hbit hfx
    cases fx with
    | false =>
      go_wp2_with fail
      refine HB.out.mono ?_
      rintro e w2 ⟨rfl, rfl⟩
      go_wp2_with fail
      go_ret
      exact ⟨HF1.out, c1, .inr ⟨fun y hy _ => by obtain rfl : x = y := by omega
                                                 exact HFX.out, rfl, HST1.out⟩⟩
    | true =>
      go_wp2_with fail
      refine HB.out.mono ?_
      rintro e w2 ⟨rfl, rfl⟩
      go_wp2_with fail
      refine HTU.out.mono ?_
      rintro e w3 ⟨rfl, hf3, hst3⟩
      have HF3 : Hid (Fr bs w w3) := Lib.hid (HF1.out.trans_new hf3 (fun z hz => by
        rcases List.mem_cons.1 hz with rfl | hz
        · exact .inr (by omega)
        · exact .inl hz))
      have HS3 := Lib.hid hst3
      clear hf3 hst3 HTU
      go_wp2_with fail
      go_ret
      exact ⟨HF3.out, c1, .inl ⟨x, rfl, hx, HFX.out, rfl, HS3.out⟩⟩
  · have HRD := Lib.hid (areadOf_none hm i (by omega))
    have HST := Lib.hid hst
    clear hst hm hbl hroom hf
    go_enter Try.func32, Try.ntmps32
    go_wp2_with fail
    refine HRD.out.mono ?_
    rintro e w1 ⟨rfl, rfl⟩
    go_wp2_with fail
    go_ret
    exact ⟨Fr.refl _ _, S.v.c, .inr ⟨fun x hx hxn => by omega, rfl, by rw [asked_same]; exact HST.out.more (by omega)⟩⟩
set_option maxRecDepth 100000 in
set_option maxHeartbeats 2000000 in
theorem taken_calls (hst : StAt w bs s p l m nd q b S) (hg : S.gone = false) (hv : S.v.d = false) (hm : MapBox w h s at' n) (hh : h ∉ bs) (hn : n ≤ 8192) (hi : at' + (n - 1) / 512 + 300 < nd) (hb : b < 8000000000000000000)
    (f : Nat → Bool) (hf : MapTold S at' n f) (i : Int) :
    Calls Try.prog 35 #[.pointer (some ⟨h, 0, none⟩), .int .i64 i] w (TakenPost w bs s p l m nd q b S n f i) := by
  by_cases hin : 0 ≤ i ∧ i < n
  · obtain ⟨x, rfl⟩ : ∃ x : Nat, i = x := ⟨i.toNat, by omega⟩
    have hx : x < n := by omega
    have hisin : isIn (x : Int) n = true := by simp [isIn]; omega
    have HRD := Lib.hid (areadOf_calls hst hg hv hm hh x hx (by omega) (by omega) (by omega))
    have HT := Lib.hid (hf (x / 512) (by omega))
    have HIN := Lib.hid hisin
    clear hm hf hst hisin
    go_enter Try.func35, Try.ntmps35
    go_wp2_with fail
    refine HRD.out.mono ?_
    rintro e w1 ⟨y, c1, rfl, hf1, hst1, hx1⟩
    obtain ⟨g, cap, rfl, hg1, hg2, hr1, cur, t, hb1, ht1⟩ := hx1.range
    rw [HT.out] at hr1 ht1
    have hbit := bit_calls w1 g cap f x (by omega) hr1
    obtain ⟨fx, hfx⟩ : ∃ fx, f x = fx := ⟨_, rfl⟩
    rw [hfx] at hbit
    have HB := Lib.hid hbit; have HFX := Lib.hid hfx
    have HF1 := Lib.hid hf1; have HST1 := Lib.hid hst1
    clear hf1 hst1 hx1 hr1 hb1 ht1 HRD hbit hfx
    cases fx with
    | false =>
      go_wp2_with fail
      refine HB.out.mono ?_
      rintro e w2 ⟨rfl, rfl⟩
      go_wp2_with fail
      go_ret2
      refine ⟨HF1.out, c1, HST1.out, ?_⟩
      rw [HIN.out, Int.toNat_natCast, HFX.out]
      rfl
    | true =>
      go_wp2_with fail
      refine HB.out.mono ?_
      rintro e w2 ⟨rfl, rfl⟩
      go_wp2_with fail
      go_ret2
      refine ⟨HF1.out, c1, HST1.out, ?_⟩
      rw [HIN.out, Int.toNat_natCast, HFX.out]
      rfl
  · have HRD := Lib.hid (areadOf_none hm i (by omega))
    have hisin : isIn i n = false := by
      cases hb : isIn i n with
      | false => rfl
      | true => simp [isIn] at hb; omega
    have HST := Lib.hid hst; have HIN := Lib.hid hisin
    clear hst hm hf hisin
    go_enter Try.func35, Try.ntmps35
    go_wp2_with fail
    refine HRD.out.mono ?_
    rintro e w1 ⟨rfl, rfl⟩
    go_wp2_with fail
    go_ret2
    refine ⟨Fr.refl _ _, S.v.c, by rw [asked_same]; exact HST.out.more (by omega), ?_⟩
    rw [HIN.out]
    rfl
set_option maxRecDepth 100000 in
set_option maxHeartbeats 2000000 in
theorem count_calls (hst : StAt w bs s p l m nd q b S) (hg : S.gone = false) (hv : S.v.d = false) (hm : MapBox w h s at' n) (hh : h ∉ bs) (hn : n ≤ 8192) (hi : at' + (n - 1) / 512 + 300 < nd) (hb : b < 8000000000000000000)
    (f : Nat → Bool) (hf : MapTold S at' n f) :
    Calls Try.prog 33 #[.pointer (some ⟨h, 0, none⟩)] w (CountPost w bs s p l m nd q b S n f) := by
  have HM := Lib.hid hm; have HST := Lib.hid hst; have HT := Lib.hid hf
  clear hm hst hf
  go_enter Try.func33, Try.ntmps33
  go_wp2_with fail
  go_loopw [4, 5] (fun v4 v5 wr => ∃ (j : Nat) (c : Int), (512 * j ≤ 8704 ∧ j ≤ 17) ∧ v5 = .int .i64 ((512 * j : Nat) : Int) ∧ v4 = .int .i64 (cntB f (min n (512 * j))) ∧ Fr bs w wr ∧ StAt wr bs s p l m nd q (b + j) (S.asked c)) (fun _ v5 _ => 10000 - (intOf v5).toNat)
  case atStart => exact ⟨0, S.v.c, by omega, rfl, by simp [cntB], Fr.refl _ _, by rw [asked_same]; exact HST.out.more (by omega)⟩
  case round =>
    rename World => wr
    obtain ⟨j, c, hj, rfl, rfl, hfr, hst⟩ := hrel
    have hmr := hfr.keep HM.out hh
    have hcm := box_cell hmr
    obtain ⟨F, hF⟩ : ∃ F : Nat, 512 * j = F := ⟨_, rfl⟩
    have hw1 : IntKind.i64.wrap (((512 * j : Nat) : Int) + 512) = ((512 * (j + 1) : Nat) : Int) := by rw [show ((512 * j : Nat) : Int) + 512 = ((512 * (j + 1) : Nat) : Int) by omega]; exact IntWalk.i64_in _ (by omega)
    rw [hF] at hw1 ⊢
    by_cases hlt : F < n
    · have hlt' : (F : Int) < (n : Int) := by omega
      have hj2 : F / 512 = j := by omega
      have HRD := Lib.hid (aread_calls hst hg hv hmr hh F (by omega) (by omega) (by omega))
      have HIT := Lib.hid (fun W (hW : MapBox W h s at' n) => items_calls W h s at' n hW F (by omega) (by omega))
      rw [hj2] at HRD
      rw [show min n F = F by omega]
      have HFR := Lib.hid hfr; have HMR := Lib.hid hmr
      clear hfr hst hmr
      go_wp2_with fail
      refine HRD.out.mono ?_
      rintro e w1 ⟨x, c1, rfl, hf1, hst1, hx1⟩
      obtain ⟨g, cap, rfl, hg1, hg2, hr1, cur, t, hb1, ht1⟩ := hx1.range
      rw [asked_tell, HT.out j (by omega)] at hr1 ht1
      rw [asked_asked] at hst1
      have hm1 := hf1.keep HMR.out hh
      have HI1 := Lib.hid (HIT.out w1 hm1)
      have HB := Lib.hid (fun (y : Nat) (hy : y < 512) => by
        have h1 : secOf (fun z => f (F + z)) (y / 512) = secOf f j := by
          rw [show y / 512 = 0 by omega]
          unfold secOf
          refine List.map_congr_left fun k _ => ?_
          unfold b8
          simp only [Nat.mul_zero, Nat.zero_add, Nat.add_assoc, hF]
        exact bit_calls w1 g cap (fun z => f (F + z)) y (by omega) (by rw [h1]; exact hr1))
      have HF1 := Lib.hid (HFR.out.trans hf1); have HST1 := Lib.hid hst1
      clear hf1 hst1 hx1 hr1 hb1 ht1 hm1 HRD HIT
      go_wp2_with fail
      refine HI1.out.mono ?_
      rintro e w2 ⟨rfl, rfl⟩
      have hit : itemsI n F = ((min 512 (n - F) : Nat) : Int) := by unfold itemsI; omega
      rw [hit]
      obtain ⟨I, hI⟩ : ∃ I, min 512 (n - F) = I := ⟨_, rfl⟩
      rw [hI]
      have hI2 : I ≤ 512 ∧ F + I ≤ n ∧ (I = 512 ∨ F + I = n) := by omega
      clear hI hit HI1
      go_wp2_with fail
      go_loopw [4, 29] (fun v4 v29 wk => ∃ t : Nat, t ≤ I ∧ v29 = .int .i64 t ∧ v4 = .int .i64 (cntB f (F + t)) ∧ w1 = wk) (fun _ v29 _ => 1000 - (intOf v29).toNat)
      case atStart => exact ⟨0, by omega, rfl, rfl, rfl⟩
      case round =>
        obtain ⟨t, ht, rfl, rfl, rfl⟩ := hrel
        have hw2 : IntKind.i64.wrap ((t : Int) + 1) = (t : Int) + 1 := IntWalk.i64_in _ (by omega)
        by_cases hti : t < I
        · have hti' : (t : Int) < (I : Int) := by omega
          have HB1 := Lib.hid (HB.out t (by omega))
          have hcb := cntB_le f (F + t)
          have hone : (f (F + t)).toNat ≤ 1 := Bool.toNat_le _
          have hw3 : IntKind.i64.wrap ((cntB f (F + t) : Int) + ((f (F + t)).toNat : Int)) = ((cntB f (F + (t + 1)) : Nat) : Int) := by
            have : cntB f (F + (t + 1)) = cntB f (F + t) + (f (F + t)).toNat := rfl
            rw [this, Int.natCast_add]; exact IntWalk.i64_in _ (by omega)
          go_wp2_with fail
          refine HB1.out.mono ?_
          rintro e w2 ⟨rfl, rfl⟩
          go_wp2_with fail
          go_roundw
          case rel => exact ⟨t + 1, by omega, by go_num, rfl, trivial⟩
          case measure => simp [intOf]; omega
        · have hti' : ¬ (t : Int) < (I : Int) := by omega
          obtain rfl : t = I := by omega
          go_wp2_with fail
          go_roundw
          case rel => exact ⟨j + 1, c1, by omega, by go_num, by rw [show min n (512 * (j + 1)) = F + t by omega], HF1.out, HST1.out.more (by omega)⟩
          case measure => simp [intOf]; omega
    · have hlt' : ¬ (F : Int) < (n : Int) := by omega
      have HFR := Lib.hid hfr; have HS3 := Lib.hid hst
      rw [show min n F = n by omega]
      clear hfr hst
      go_wp2_with fail
      go_ret2
      exact ⟨HFR.out, c, HS3.out.more (by omega), rfl⟩
end
end Go.Proofs.Ytoifpbifipgpkaa
namespace Go.Proofs.Ytoifpbifipgpkaa
open Go.RowKit Go.MapKept
theorem Card.within {U : Int → Option (List UInt8)} {k : Nat} (h : Card U k) (a K : Nat) (hd : ∀ i, (U i).isSome = true → ∃ j : Nat, j < K ∧ i = ((a + j : Nat) : Int)) : k ≤ K := by
  obtain ⟨ks, hn, hm, rfl⟩ := h
  have := List.Nodup.length_le_of_subset (l₂ := (List.range K).map fun j => ((a + j : Nat) : Int)) hn (fun x hx => by
    obtain ⟨t, ht⟩ := (hm x).1 hx
    obtain ⟨j, hj, rfl⟩ := hd x (by rw [ht]; rfl)
    exact List.mem_map.2 ⟨j, List.mem_range.2 hj, rfl⟩)
  simpa using this
theorem Fit.asked {S : Sv} (h : Fit S) (c : Int) : Fit (S.asked c) := ⟨h.gone, ⟨h.live.d, h.live.f⟩, h.wt, h.head, h.lst, h.cnt⟩
theorem Fit.put' {S : Sv} (h : Fit S) (i : Nat) (x : List UInt8) : Fit (S.put' i x) := ⟨h.gone, h.live, h.wt, h.head, h.lst, h.cnt⟩
/-- What a store tells without the change under way. -/
def Sv.base (S : Sv) : Sv := { S with U := fun _ => none, k := 0 }
theorem Fit.base {S : Sv} (h : Fit S) : Fit S.base := ⟨h.gone, h.live, h.wt, h.head, h.lst, h.cnt⟩
theorem put'_tell (S : Sv) (i : Nat) (x : List UInt8) (j : Nat) : (S.put' i x).tell j = if j = i then x else S.tell j := by
  unfold Sv.tell Sv.put'
  simp only [wrote]
  by_cases h : j = i
  · subst h; simp
  · rw [if_neg h, if_neg (by omega)]
/-- G: what else there is, that no call on the map turns. -/
structure AlAt (w : World) (s p l m h at' n : Nat) (G : List (Nat × Obj)) (B : Nat) (f g : Nat → Bool) (all : Nat) (wr : World) : Prop where
  ex : ∃ (bs : List Nat) (S : Sv) (b : Int), StAt wr bs s p l m 400 400 b S ∧ Fit S ∧ S.all = all ∧ h ∉ bs ∧ (∀ x ∈ bs, w.heap.size ≤ x ∧ x < wr.heap.size) ∧ MapTold S at' n f ∧ MapTold S.base at' n g ∧ (∀ i, (S.U i).isSome = true → ∃ j : Nat, 512 * j < n ∧ i = ((at' + j : Nat) : Int)) ∧ (∀ y ∈ G, y.1 ∉ bs ∧ y.1 ≠ h) ∧ b ≤ B
  keep : ∀ y ∈ G, wr.heap[y.1]? = some y.2
  box : MapBox wr h s at' n
  hh : w.heap.size ≤ h
  fr : Fr [] w wr
def TakeDone (n : Nat) (f : Nat → Bool) (e : Ending) (f' : Nat → Bool) : Prop :=
  (∃ x : Nat, x < n ∧ (∀ y, y < x → f y = true) ∧ f x = false ∧ e = .returned (.tuple #[.int .i64 x, .int .i64 0]) ∧ f' = flip f x) ∨ ((∀ y, y < n → f y = true) ∧ e = .returned (.tuple #[.int .i64 0, .int .i64 60]) ∧ f' = f)
def GiveDone (n : Nat) (f : Nat → Bool) (i : Int) (e : Ending) (f' : Nat → Bool) : Prop :=
  (∃ x : Nat, i = x ∧ x < n ∧ f x = true ∧ e = .returned (.int .i64 0) ∧ f' = flip f x) ∨ ((∀ x : Nat, i = x → x < n → f x = false) ∧ e = .returned (.int .i64 1) ∧ f' = f)
section
variable {w wr : World} {s p l m h at' n B : Nat} {G : List (Nat × Obj)} {f g : Nat → Bool} {all : Nat}
/-- What else there is turns, and the map lies as it lay. -/
theorem AlAt.regard {W : World} (hA : AlAt w s p l m h at' n G B f g all wr) {r : List Nat} (hfr : Fr r wr W) (hr : ∀ x ∈ r, wr.heap.size ≤ x ∨ ∃ y ∈ G, y.1 = x ∧ w.heap.size ≤ x) (G' : List (Nat × Obj)) (hG' : ∀ y ∈ G', W.heap[y.1]? = some y.2 ∧ (wr.heap.size ≤ y.1 ∨ ∃ z ∈ G, z.1 = y.1)) :
    AlAt w s p l m h at' n G' B f g all W := by
  obtain ⟨bs, S, b, hst, hfit, hall, hh, hbs, hf, hg, hd, hG, hb⟩ := hA.ex
  have hlt := lt_of_heap hA.box
  have hsz := hA.fr.size
  have hnb : ∀ x ∈ r, x ∉ bs := fun x hx hxb => by
    rcases hr x hx with h1 | ⟨y, hy, rfl, _⟩
    · have := (hbs x hxb).2; omega
    · exact (hG y hy).1 hxb
  have hnh : h ∉ r := fun hx => by
    rcases hr h hx with h1 | ⟨y, hy, e, _⟩
    · omega
    · exact (hG y hy).2 e
  refine ⟨⟨bs, S, b, hst.keep hfr hnb, hfit, hall, hh, fun y hy => ⟨(hbs y hy).1, Nat.lt_of_lt_of_le (hbs y hy).2 hfr.size⟩, hf, hg, hd, fun y hy => ?_, hb⟩, fun y hy => (hG' y hy).1, hfr.keep hA.box hnh, hA.hh, hA.fr.trans_new hfr (fun x hx => ?_)⟩
  · rcases (hG' y hy).2 with h1 | ⟨z, hz, e⟩
    · exact ⟨fun hx => by have := (hbs _ hx).2; omega, by omega⟩
    · rw [← e]; exact hG z hz
  · rcases hr x hx with h1 | ⟨y, hy, _, h2⟩
    · exact .inr (by omega)
    · exact .inr h2
theorem AlAt.more (hA : AlAt w s p l m h at' n G B f g all wr) {B' : Nat} (hB : B ≤ B') : AlAt w s p l m h at' n G B' f g all wr := by
  obtain ⟨bs, S, b, hst, hfit, hall, hh, hbs, hf, hg, hd, hG, hb⟩ := hA.ex
  exact ⟨⟨bs, S, b, hst, hfit, hall, hh, hbs, hf, hg, hd, hG, by omega⟩, hA.keep, hA.box, hA.hh, hA.fr⟩
theorem MapTold.turn {S : Sv} (hf : MapTold S at' n f) (c : Int) (x : Nat) : MapTold ((S.asked c).put' (at' + x / 512) (secOf (flip f x) (x / 512))) at' n (flip f x) := fun j hj => by
  rw [put'_tell, asked_tell]
  by_cases e : j = x / 512
  · subst e; rw [if_pos rfl]
  · rw [if_neg (by omega), hf j hj, secOf_other _ _ _ e]
theorem room_of {S : Sv} {bs : List Nat} {nd q : Nat} {b : Int} (hst : StAt wr bs s p l m nd q b S) (hn : n ≤ 8192) (hd : ∀ i, (S.U i).isSome = true → ∃ j : Nat, 512 * j < n ∧ i = ((at' + j : Nat) : Int)) : S.k < 128 := by
  have := hst.card.within at' 16 (fun i hi => by
    obtain ⟨j, hj, e⟩ := hd i hi
    exact ⟨j, by omega, e⟩)
  omega
theorem put_dom {S : Sv} (hd : ∀ i, (S.U i).isSome = true → ∃ j : Nat, 512 * j < n ∧ i = ((at' + j : Nat) : Int)) (c : Int) {x : Nat} (hx : x < n) (t : List UInt8) : ∀ i, (((S.asked c).put' (at' + x / 512) t).U i).isSome = true → ∃ j : Nat, 512 * j < n ∧ i = ((at' + j : Nat) : Int) := fun i hi => by
  simp only [Sv.put', wrote] at hi
  split at hi
  · rename_i e; exact ⟨x / 512, by omega, e⟩
  · exact hd i hi
theorem al_take (hA : AlAt w s p l m h at' n G B f g all wr) (hn : n ≤ 8192) (hi : at' + (n - 1) / 512 + 300 < 400) (hB : B < 7000000000000000000) :
    Calls Try.prog 31 #[.pointer (some ⟨h, 0, none⟩)] wr fun e w' => ∃ f', TakeDone n f e f' ∧ AlAt w s p l m h at' n G (B + 17) f' g all w' := by
  obtain ⟨bs, S, b, hst, hfit, hall, hh, hbs, hf, hg, hd, hG, hb⟩ := hA.ex
  refine (take_calls hst hfit.gone hfit.live.d hA.box hh (fun x hx => (hbs x hx).2) hn hi (by omega) f hf (fun j _ => .inr (room_of hst hn hd))).mono ?_
  rintro e w' ⟨hfr, c, ⟨x, hx, hall', hx0, rfl, hst'⟩ | ⟨hfull, rfl, hst'⟩⟩
  · refine ⟨_, .inl ⟨x, hx, hall', hx0, rfl, rfl⟩, ⟨⟨bs, _, _, hst', (hfit.asked c).put' _ _, hall, hh, fun y hy => ⟨(hbs y hy).1, Nat.lt_of_lt_of_le (hbs y hy).2 hfr.size⟩, hf.turn c x, hg, put_dom hd c hx _, hG, by omega⟩, fun y hy => hfr.keep (hA.keep y hy) (hG y hy).1, hfr.keep hA.box hh, hA.hh, hA.fr.trans_new hfr (fun y hy => .inr (hbs y hy).1)⟩⟩
  · exact ⟨f, .inr ⟨hfull, rfl, rfl⟩, ⟨⟨bs, _, _, hst', hfit.asked c, hall, hh, fun y hy => ⟨(hbs y hy).1, Nat.lt_of_lt_of_le (hbs y hy).2 hfr.size⟩, hf, hg, hd, hG, by omega⟩, fun y hy => hfr.keep (hA.keep y hy) (hG y hy).1, hfr.keep hA.box hh, hA.hh, hA.fr.trans_new hfr (fun y hy => .inr (hbs y hy).1)⟩⟩
theorem al_give (hA : AlAt w s p l m h at' n G B f g all wr) (hn : n ≤ 8192) (hi : at' + (n - 1) / 512 + 300 < 400) (hB : B < 7000000000000000000) (i : Int) :
    Calls Try.prog 32 #[.pointer (some ⟨h, 0, none⟩), .int .i64 i] wr fun e w' => ∃ f', GiveDone n f i e f' ∧ AlAt w s p l m h at' n G (B + 17) f' g all w' := by
  obtain ⟨bs, S, b, hst, hfit, hall, hh, hbs, hf, hg, hd, hG, hb⟩ := hA.ex
  refine (give_calls hst hfit.gone hfit.live.d hA.box hh (fun x hx => (hbs x hx).2) hn hi (by omega) f hf (fun j _ => .inr (room_of hst hn hd)) i).mono ?_
  rintro e w' ⟨hfr, c, ⟨x, hx1, hx, hx0, rfl, hst'⟩ | ⟨hfull, rfl, hst'⟩⟩
  · refine ⟨_, .inl ⟨x, hx1, hx, hx0, rfl, rfl⟩, ⟨⟨bs, _, _, hst', (hfit.asked c).put' _ _, hall, hh, fun y hy => ⟨(hbs y hy).1, Nat.lt_of_lt_of_le (hbs y hy).2 hfr.size⟩, hf.turn c x, hg, put_dom hd c hx _, hG, by omega⟩, fun y hy => hfr.keep (hA.keep y hy) (hG y hy).1, hfr.keep hA.box hh, hA.hh, hA.fr.trans_new hfr (fun y hy => .inr (hbs y hy).1)⟩⟩
  · exact ⟨f, .inr ⟨hfull, rfl, rfl⟩, ⟨⟨bs, _, _, hst', hfit.asked c, hall, hh, fun y hy => ⟨(hbs y hy).1, Nat.lt_of_lt_of_le (hbs y hy).2 hfr.size⟩, hf, hg, hd, hG, by omega⟩, fun y hy => hfr.keep (hA.keep y hy) (hG y hy).1, hfr.keep hA.box hh, hA.hh, hA.fr.trans_new hfr (fun y hy => .inr (hbs y hy).1)⟩⟩
theorem al_taken (hA : AlAt w s p l m h at' n G B f g all wr) (hn : n ≤ 8192) (hi : at' + (n - 1) / 512 + 300 < 400) (hB : B < 7000000000000000000) (i : Int) :
    Calls Try.prog 35 #[.pointer (some ⟨h, 0, none⟩), .int .i64 i] wr fun e w' => e = .returned (.tuple #[.bool (isIn i n && f i.toNat), .int .i64 (if isIn i n = true then 0 else 1)]) ∧ AlAt w s p l m h at' n G (B + 17) f g all w' := by
  obtain ⟨bs, S, b, hst, hfit, hall, hh, hbs, hf, hg, hd, hG, hb⟩ := hA.ex
  refine (taken_calls hst hfit.gone hfit.live.d hA.box hh hn hi (by omega) f hf i).mono ?_
  rintro e w' ⟨hfr, c, hst', rfl⟩
  exact ⟨rfl, ⟨⟨bs, _, _, hst', hfit.asked c, hall, hh, fun y hy => ⟨(hbs y hy).1, Nat.lt_of_lt_of_le (hbs y hy).2 hfr.size⟩, hf, hg, hd, hG, by omega⟩, fun y hy => hfr.keep (hA.keep y hy) (hG y hy).1, hfr.keep hA.box hh, hA.hh, hA.fr.trans_new hfr (fun y hy => .inr (hbs y hy).1)⟩⟩
theorem al_count (hA : AlAt w s p l m h at' n G B f g all wr) (hn : n ≤ 8192) (hi : at' + (n - 1) / 512 + 300 < 400) (hB : B < 7000000000000000000) :
    Calls Try.prog 33 #[.pointer (some ⟨h, 0, none⟩)] wr fun e w' => e = .returned (.tuple #[.int .i64 (cntB f n), .int .i64 0]) ∧ AlAt w s p l m h at' n G (B + 17) f g all w' := by
  obtain ⟨bs, S, b, hst, hfit, hall, hh, hbs, hf, hg, hd, hG, hb⟩ := hA.ex
  refine (count_calls hst hfit.gone hfit.live.d hA.box hh hn hi (by omega) f hf).mono ?_
  rintro e w' ⟨hfr, c, hst', rfl⟩
  exact ⟨rfl, ⟨⟨bs, _, _, hst', hfit.asked c, hall, hh, fun y hy => ⟨(hbs y hy).1, Nat.lt_of_lt_of_le (hbs y hy).2 hfr.size⟩, hf, hg, hd, hG, by omega⟩, fun y hy => hfr.keep (hA.keep y hy) (hG y hy).1, hfr.keep hA.box hh, hA.hh, hA.fr.trans_new hfr (fun y hy => .inr (hbs y hy).1)⟩⟩
theorem al_read (hA : AlAt w s p l m h at' n G B f g all wr) (j : Nat) (hj : 512 * j < n) (hi : at' + j + 300 < 400) (hB : B < 7000000000000000000) :
    Calls Try.prog 20 #[.pointer (some ⟨s, 0, none⟩), .int .i64 ((at' + j : Nat) : Int)] wr fun e w' => ∃ x, e = .returned (.tuple #[x, .int .i64 0]) ∧ Bytes64 w' wr.heap.size x (secOf f j) ∧ AlAt w s p l m h at' n G (B + 17) f g all w' := by
  obtain ⟨bs, S, b, hst, hfit, hall, hh, hbs, hf, hg, hd, hG, hb⟩ := hA.ex
  refine (st_read hst hfit.gone hfit.live.d (at' + j) (by omega) (by omega)).mono ?_
  rintro e w' ⟨x, c, rfl, hfr, hst', hx⟩
  rw [hf j hj] at hx
  exact ⟨x, rfl, hx, ⟨⟨bs, _, _, hst', hfit.asked c, hall, hh, fun y hy => ⟨(hbs y hy).1, Nat.lt_of_lt_of_le (hbs y hy).2 hfr.size⟩, hf, hg, hd, hG, by omega⟩, fun y hy => hfr.keep (hA.keep y hy) (hG y hy).1, hfr.keep hA.box hh, hA.hh, hA.fr.trans_new hfr (fun y hy => .inr (hbs y hy).1)⟩⟩
theorem al_commit (hA : AlAt w s p l m h at' n G B f g all wr) (hB : B < 7000000000000000000) (ha : all < 1000000) :
    Calls Try.prog 15 #[.pointer (some ⟨s, 0, none⟩)] wr fun e w' => e = .returned (.int .i64 0) ∧ AlAt w s p l m h at' n G (B + 800) f f (all + 1) w' := by
  obtain ⟨bs, S, b, hst, hfit, hall, hh, hbs, hf, hg, hd, hG, hb⟩ := hA.ex
  refine (fit_commit hst hfit (by omega) (by omega)).mono ?_
  rintro e w' ⟨bs', S1, rfl, hfr, hgr, hs1, hst'⟩
  have hco := committed hfit hst.card hs1
  obtain ⟨bs2, htr, hst2⟩ := hst'.trim
  have hsz := hA.fr.size
  have hlt := lt_of_heap hA.box
  have hbase : ∀ i, (S1.push.base).tell i = S1.push.tell i := fun i => by
    unfold Sv.tell Sv.base
    rw [hco.und]
  refine ⟨rfl, ⟨⟨bs2, _, _, hst2, hco.fit, by rw [hco.all, hall]; omega, fun hx => ?_, fun y hy => ⟨?_, (htr y hy).2⟩, fun j hj => by rw [hco.tell]; exact hf j hj, fun j hj => by rw [hbase, hco.tell]; exact hf j hj, fun i hi => (by rw [hco.und] at hi; cases hi), fun y hy => ⟨fun hx => ?_, (hG y hy).2⟩, by omega⟩, fun y hy => hfr.keep (hA.keep y hy) (hG y hy).1, hfr.keep hA.box hh, hA.hh, hA.fr.trans_new hfr (fun y hy => .inr (hbs y hy).1)⟩⟩
  · rcases hgr h (htr h hx).1 with h1 | h1
    · exact hh h1
    · omega
  · rcases hgr y (htr y hy).1 with h1 | h1
    · exact (hbs y h1).1
    · omega
  · have hlt2 := lt_of_heap (hA.keep y hy)
    rcases hgr y.1 (htr y.1 hx).1 with h1 | h1
    · exact (hG y hy).1 h1
    · omega
theorem al_abort (hA : AlAt w s p l m h at' n G B f g all wr) :
    Calls Try.prog 25 #[.pointer (some ⟨s, 0, none⟩)] wr fun e w' => e = .returned (.tuple #[]) ∧ AlAt w s p l m h at' n G B g g all w' := by
  obtain ⟨bs, S, b, hst, hfit, hall, hh, hbs, hf, hg, hd, hG, hb⟩ := hA.ex
  refine (st_abort hst).mono ?_
  rintro e w' ⟨bs', rfl, hfr, hgr, hst'⟩
  obtain ⟨bs2, htr, hst2⟩ := hst'.trim
  have hsz := hA.fr.size
  have hlt := lt_of_heap hA.box
  refine ⟨rfl, ⟨⟨bs2, S.base, _, hst2, hfit.base, hall, fun hx => ?_, fun y hy => ⟨?_, (htr y hy).2⟩, hg, hg, fun i hi => (by cases hi), fun y hy => ⟨fun hx => ?_, (hG y hy).2⟩, by omega⟩, fun y hy => hfr.keep (hA.keep y hy) (hG y hy).1, hfr.keep hA.box hh, hA.hh, hA.fr.trans_new hfr (fun y hy => .inr (hbs y hy).1)⟩⟩
  · rcases hgr h (htr h hx).1 with h1 | h1
    · exact hh h1
    · omega
  · rcases hgr y (htr y hy).1 with h1 | h1
    · exact (hbs y h1).1
    · omega
  · have hlt2 := lt_of_heap (hA.keep y hy)
    rcases hgr y.1 (htr y.1 hx).1 with h1 | h1
    · exact (hG y hy).1 h1
    · omega
end
end Go.Proofs.Ytoifpbifipgpkaa
