/-
  x & (2^i - 1) of any int.
-/
import Derived.WalkKit
namespace Go.Proofs.Ytoifpbifipgpkaa
theorem mask64 (x : Int) (i : Nat) (hi : i ≤ 62) : bits .and .i64 x ((2 ^ i - 1 : Nat) : Int) = x % ((2 ^ i : Nat) : Int) := by
  have hp : 0 < 2 ^ i := Nat.two_pow_pos i
  have hle : 2 ^ i ≤ 2 ^ 62 := Nat.pow_le_pow_right (by decide) hi
  unfold bits
  have e2 : (BitVec.ofInt 64 ((2 ^ i - 1 : Nat) : Int)).toNat = 2 ^ i - 1 := by
    rw [BitVec.toNat_ofInt]
    have h1 : ((2 ^ i - 1 : Nat) : Int) % ((2 ^ 64 : Nat) : Int) = ((2 ^ i - 1 : Nat) : Int) := Int.emod_eq_of_lt (by omega) (by
      have : (2 : Nat) ^ 62 < 2 ^ 64 := by decide
      omega)
    rw [h1]; rfl
  have e3 : (BitVec.ofInt 64 x &&& BitVec.ofInt 64 ((2 ^ i - 1 : Nat) : Int)).toNat = (x % ((2 ^ i : Nat) : Int)).toNat := by
    rw [BitVec.toNat_and, e2, Nat.and_two_pow_sub_one_eq_mod, BitVec.toNat_ofInt]
    have hd : ((2 ^ i : Nat) : Int) ∣ ((2 ^ 64 : Nat) : Int) := by
      rw [Int.natCast_dvd_natCast]
      exact Nat.pow_dvd_pow 2 (by omega)
    have h0 : 0 ≤ x % ((2 ^ 64 : Nat) : Int) := Int.emod_nonneg _ (by decide)
    have h2 : (((x % ((2 ^ 64 : Nat) : Int)).toNat % 2 ^ i : Nat) : Int) = x % ((2 ^ i : Nat) : Int) := by
      rw [Int.natCast_emod, Int.toNat_of_nonneg h0, Int.emod_emod_of_dvd _ hd]
    omega
  have h0 : 0 ≤ x % ((2 ^ i : Nat) : Int) := Int.emod_nonneg _ (by omega)
  have h1 : x % ((2 ^ i : Nat) : Int) < ((2 ^ i : Nat) : Int) := Int.emod_lt_of_pos _ (by omega)
  show IntKind.i64.wrap ((BitVec.ofInt 64 x &&& BitVec.ofInt 64 ((2 ^ i - 1 : Nat) : Int)).toNat : Int) = _
  rw [e3, Int.toNat_of_nonneg h0, IntKind.wrap_i64]
  have : (2 : Nat) ^ 62 = 4611686018427387904 := by decide
  omega
theorem mask3 (x : Int) : bits .and .i64 x 3 = x % 4 := mask64 x 2 (by decide)
theorem mask1 (x : Int) : bits .and .i64 x 1 = x % 2 := mask64 x 1 (by decide)
theorem mask7 (x : Int) : bits .and .i64 x 7 = x % 8 := mask64 x 3 (by decide)
theorem mask15 (x : Int) : bits .and .i64 x 15 = x % 16 := mask64 x 4 (by decide)
theorem mask31 (x : Int) : bits .and .i64 x 31 = x % 32 := mask64 x 5 (by decide)
theorem mask63 (x : Int) : bits .and .i64 x 63 = x % 64 := mask64 x 6 (by decide)
theorem mask127 (x : Int) : bits .and .i64 x 127 = x % 128 := mask64 x 7 (by decide)
theorem mask255 (x : Int) : bits .and .i64 x 255 = x % 256 := mask64 x 8 (by decide)
theorem mask65535 (x : Int) : bits .and .i64 x 65535 = x % 65536 := mask64 x 16 (by decide)
end Go.Proofs.Ytoifpbifipgpkaa
