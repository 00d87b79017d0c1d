/-
  alloc: bits as bytes of sectors.
-/
import Derived.WalkKit
import Derived.Test.YtoifpbifipgpkaaLaws
import Derived.Test.YtoifpbifipgpkaaMask
namespace Go.Proofs.Ytoifpbifipgpkaa
/-- Eight bits as a number. -/
def mk8 (b0 b1 b2 b3 b4 b5 b6 b7 : Bool) : Nat := b0.toNat + 2 * b1.toNat + 4 * b2.toNat + 8 * b3.toNat + 16 * b4.toNat + 32 * b5.toNat + 64 * b6.toNat + 128 * b7.toNat
def pick8 (b0 b1 b2 b3 b4 b5 b6 b7 : Bool) (r : Nat) : Bool := (b0 && r == 0) || (b1 && r == 1) || (b2 && r == 2) || (b3 && r == 3) || (b4 && r == 4) || (b5 && r == 5) || (b6 && r == 6) || (b7 && r == 7)
theorem mk8_bit : ∀ b0 b1 b2 b3 b4 b5 b6 b7 : Bool, ∀ r : Fin 8, mk8 b0 b1 b2 b3 b4 b5 b6 b7 / 2 ^ r.val % 2 = (pick8 b0 b1 b2 b3 b4 b5 b6 b7 r.val).toNat := by decide +kernel
theorem mk8_lt : ∀ b0 b1 b2 b3 b4 b5 b6 b7 : Bool, mk8 b0 b1 b2 b3 b4 b5 b6 b7 < 256 := by decide +kernel
theorem mk8_full : ∀ b0 b1 b2 b3 b4 b5 b6 b7 : Bool, mk8 b0 b1 b2 b3 b4 b5 b6 b7 = 255 ↔ (b0 && b1 && b2 && b3 && b4 && b5 && b6 && b7) = true := by decide +kernel
theorem mk8_flip : ∀ b0 b1 b2 b3 b4 b5 b6 b7 : Bool, ∀ r : Fin 8, bits .xor .u8 ((mk8 b0 b1 b2 b3 b4 b5 b6 b7 : Nat) : Int) ((2 ^ r.val : Nat) : Int) = ((mk8 (b0 != (r.val == 0)) (b1 != (r.val == 1)) (b2 != (r.val == 2)) (b3 != (r.val == 3)) (b4 != (r.val == 4)) (b5 != (r.val == 5)) (b6 != (r.val == 6)) (b7 != (r.val == 7)) : Nat) : Int) := by decide +kernel
/-- The eight bits from a on. -/
def b8 (f : Nat → Bool) (a : Nat) : Nat := mk8 (f a) (f (a + 1)) (f (a + 2)) (f (a + 3)) (f (a + 4)) (f (a + 5)) (f (a + 6)) (f (a + 7))
theorem b8_lt (f : Nat → Bool) (a : Nat) : b8 f a < 256 := mk8_lt _ _ _ _ _ _ _ _
theorem b8_bit (f : Nat → Bool) (a : Nat) {r : Nat} (hr : r < 8) : b8 f a / 2 ^ r % 2 = (f (a + r)).toNat := by
  refine (mk8_bit _ _ _ _ _ _ _ _ ⟨r, hr⟩).trans ?_
  obtain rfl | rfl | rfl | rfl | rfl | rfl | rfl | rfl : r = 0 ∨ r = 1 ∨ r = 2 ∨ r = 3 ∨ r = 4 ∨ r = 5 ∨ r = 6 ∨ r = 7 := by omega
  all_goals simp [pick8]
theorem b8_full (f : Nat → Bool) (a : Nat) : b8 f a = 255 ↔ ∀ r, r < 8 → f (a + r) = true := by
  unfold b8
  rw [mk8_full]
  simp only [Bool.and_eq_true]
  constructor
  · rintro ⟨⟨⟨⟨⟨⟨⟨h0, h1⟩, h2⟩, h3⟩, h4⟩, h5⟩, h6⟩, h7⟩ r hr
    obtain rfl | rfl | rfl | rfl | rfl | rfl | rfl | rfl : r = 0 ∨ r = 1 ∨ r = 2 ∨ r = 3 ∨ r = 4 ∨ r = 5 ∨ r = 6 ∨ r = 7 := by omega
    all_goals assumption
  · intro h
    exact ⟨⟨⟨⟨⟨⟨⟨h 0 (by omega), h 1 (by omega)⟩, h 2 (by omega)⟩, h 3 (by omega)⟩, h 4 (by omega)⟩, h 5 (by omega)⟩, h 6 (by omega)⟩, h 7 (by omega)⟩
/-- Bit i turned. -/
def flip (f : Nat → Bool) (i : Nat) : Nat → Bool := fun y => f y != (y == i)
theorem b8_flip (f : Nat → Bool) (a : Nat) {r : Nat} (hr : r < 8) : bits .xor .u8 ((b8 f a : Nat) : Int) ((2 ^ r : Nat) : Int) = ((b8 (flip f (a + r)) a : Nat) : Int) := by
  refine (mk8_flip _ _ _ _ _ _ _ _ ⟨r, hr⟩).trans ?_
  have e : ∀ t, (a + t == a + r) = (r == t) := fun t => by rw [Bool.eq_iff_iff, beq_iff_eq, beq_iff_eq]; omega
  unfold b8 flip
  rw [show (a == a + r) = (r == 0) from e 0, e 1, e 2, e 3, e 4, e 5, e 6, e 7]
theorem b8_other (f : Nat → Bool) (a i : Nat) (h : i < a ∨ a + 8 ≤ i) : b8 (flip f i) a = b8 f a := by
  have e : ∀ t, t < 8 → flip f i (a + t) = f (a + t) := fun t ht => by
    have : (a + t == i) = false := beq_eq_false_iff_ne.2 (by omega)
    simp [flip, this]
  unfold b8
  rw [show flip f i a = f a from e 0 (by omega), e 1 (by omega), e 2 (by omega), e 3 (by omega), e 4 (by omega), e 5 (by omega), e 6 (by omega), e 7 (by omega)]
/-- The sector j of a map's bits. -/
def secOf (f : Nat → Bool) (j : Nat) : List UInt8 := (List.range 64).map fun k => UInt8.ofNat (b8 f (512 * j + 8 * k))
theorem secOf_len (f : Nat → Bool) (j : Nat) : (secOf f j).length = 64 := by simp [secOf]
theorem u8_of {x : Nat} (h : x < 256) : (UInt8.ofNat x).toNat = x := by simp [UInt8.toNat_ofNat]; omega
theorem secOf_get (f : Nat → Bool) (j : Nat) {k : Nat} (hk : k < 64) : (cel (secOf f j))[k]? = some (.int .u8 (b8 f (512 * j + 8 * k))) := by
  rw [cel_get]
  simp only [secOf, List.getElem?_map, List.getElem?_range hk, Option.map_some]
  rw [u8_of (b8_lt _ _)]
theorem cel_len (s : List UInt8) : (cel s).length = s.length := by simp [cel]
theorem secOf_cel_len (f : Nat → Bool) (j : Nat) : (cel (secOf f j)).length = 64 := by rw [cel_len, secOf_len]
/-- The byte of bit i turned: the sector's bytes. -/
theorem secOf_flip (f : Nat → Bool) (i : Nat) : (cel (secOf f (i / 512))).set (i % 512 / 8) (.int .u8 (b8 (flip f i) (512 * (i / 512) + 8 * (i % 512 / 8)))) = cel (secOf (flip f i) (i / 512)) := by
  refine List.ext_getElem? fun k => ?_
  rw [List.getElem?_set]
  by_cases hk : k < 64
  · split
    · rename_i h
      subst h
      rw [if_pos (by rw [secOf_cel_len]; omega), secOf_get _ _ hk]
    · rename_i h
      rw [secOf_get _ _ hk, secOf_get _ _ hk, b8_other _ _ _ (by omega)]
  · rw [if_neg (by omega), List.getElem?_eq_none (by rw [secOf_cel_len]; omega), List.getElem?_eq_none (by rw [secOf_cel_len]; omega)]
theorem secOf_other (f : Nat → Bool) (i j : Nat) (h : j ≠ i / 512) : secOf (flip f i) j = secOf f j := by
  unfold secOf
  refine List.map_congr_left fun k hk => ?_
  rw [b8_other _ _ _ (by have := List.mem_range.1 hk; omega)]
/-- Bits that agree on a sector: the same sector. -/
theorem secOf_congr {f g : Nat → Bool} {j : Nat} (h : ∀ i, 512 * j ≤ i → i < 512 * j + 512 → f i = g i) : secOf f j = secOf g j := by
  unfold secOf
  refine List.map_congr_left fun k hk => ?_
  have hk := List.mem_range.1 hk
  unfold b8
  rw [h _ (by omega) (by omega), h _ (by omega) (by omega), h _ (by omega) (by omega), h _ (by omega) (by omega), h _ (by omega) (by omega), h _ (by omega) (by omega), h _ (by omega) (by omega), h _ (by omega) (by omega)]
theorem secOf_zero (j : Nat) : secOf (fun _ => false) j = zeros := by
  have h : secOf (fun _ => false) j = (List.range 64).map fun _ => (0 : UInt8) := List.map_congr_left fun k _ => by simp [b8, mk8]
  rw [h]
  rfl
end Go.Proofs.Ytoifpbifipgpkaa
