/-
  What was written is read again.
-/
import Derived.Test.YtdbhppfpalpfmaaLabCd7
namespace Go.Proofs.Ytdbhppfpalpfmaa
open Go.RowKit Go.MapKept
theorem or_add (q b i : Nat) (hi : i ≤ 32) (hb : b < 2 ^ i) (hq : 2 ^ i * q + b < 2 ^ 62) : bits BinOp.or IntKind.i64 ((2 ^ i * q : Nat) : Int) (b : Int) = ((2 ^ i * q + b : Nat) : Int) := by
  unfold bits
  have hp : (2 : Nat) ^ 62 = 4611686018427387904 := by decide
  have e1 : (BitVec.ofInt 64 ((2 ^ i * q : Nat) : Int)).toNat = 2 ^ i * q := by
    rw [BitVec.toNat_ofInt]
    have h1 : ((2 ^ i * q : Nat) : Int) % ((2 ^ 64 : Nat) : Int) = ((2 ^ i * q : Nat) : Int) := Int.emod_eq_of_lt (by omega) (by omega)
    rw [h1]; rfl
  have e2 : (BitVec.ofInt 64 (b : Int)).toNat = b := by
    rw [BitVec.toNat_ofInt]
    have h1 : (b : Int) % ((2 ^ 64 : Nat) : Int) = (b : Int) := Int.emod_eq_of_lt (by omega) (by omega)
    rw [h1]; rfl
  show IntKind.i64.wrap ((BitVec.ofInt 64 ((2 ^ i * q : Nat) : Int) ||| BitVec.ofInt 64 (b : Int)).toNat : Int) = _
  rw [BitVec.toNat_or, e1, e2, ← Nat.two_pow_add_eq_or_of_lt hb, IntKind.wrap_i64]
  omega
theorem num_four (x : Int) (h0 : 0 ≤ x) (h1 : x ≤ 2147483647) : numB (x / 16777216 % 256) (x / 65536 % 256) (x / 256 % 256) (x % 256) = x := by
  obtain ⟨n, rfl⟩ : ∃ n : Nat, x = (n : Int) := ⟨x.toNat, by omega⟩
  have hn : n ≤ 2147483647 := by omega
  unfold numB
  have p24 : (2 : Nat) ^ 24 = 16777216 := by decide
  have a0 : ((n : Int) / 16777216 % 256) * 16777216 = ((2 ^ 24 * (n / 16777216 % 256) : Nat) : Int) := by
    rw [p24]; omega
  have a1 : ((n : Int) / 65536 % 256) * 65536 = ((n / 65536 % 256 * 65536 : Nat) : Int) := by omega
  have a2 : ((n : Int) / 256 % 256) * 256 = ((n / 256 % 256 * 256 : Nat) : Int) := by omega
  have a3 : ((n : Int) % 256) = ((n % 256 : Nat) : Int) := by omega
  have p16 : (2 : Nat) ^ 16 = 65536 := by decide
  have p8 : (2 : Nat) ^ 8 = 256 := by decide
  have p62 : (2 : Nat) ^ 62 = 4611686018427387904 := by decide
  rw [a0, a1, or_add _ _ 24 (by decide) (by omega) (by omega), a2]
  rw [show 2 ^ 24 * (n / 16777216 % 256) + n / 65536 % 256 * 65536 = 2 ^ 16 * (n / 65536) by omega, or_add _ _ 16 (by decide) (by omega) (by omega)]
  rw [show 2 ^ 16 * (n / 65536) + n / 256 % 256 * 256 = 2 ^ 8 * (n / 256) by omega, a3, or_add _ _ 8 (by decide) (by omega) (by omega)]
  omega
theorem rdN_tags : ∀ (l : List Int) (last : Int) (acc t : List Int), 0 ≤ last → upB last l = true → rdN l.length last acc (tagsB l ++ t) = (0, acc ++ l, t)
  | [], last, acc, t, _, _ => by simp [rdN, tagsB]
  | x :: l, last, acc, t, h0, h => by
    simp only [upB, Bool.and_eq_true, decide_eq_true_eq] at h
    obtain ⟨⟨g1, g2⟩, g3⟩ := h
    have hx := num_four x (by omega) g2
    have e : tagsB (x :: l) ++ t = (x / 16777216 % 256) :: (x / 65536 % 256) :: (x / 256 % 256) :: (x % 256) :: (tagsB l ++ t) := by simp [tagsB, fourB]
    rw [e, List.length_cons, rdN, hx, decide_eq_true g1, decide_eq_true g2]
    simp only [Bool.and_self, cond_true]
    rw [rdN_tags l x _ t (by omega) g3, List.append_assoc]
    rfl
theorem rdS_code {l : List Int} (h : setB l = true) (t : List Int) : rdS (codeB l ++ t) = (0, l, t) := by
  have hl := setB_len h
  unfold setB at h
  rw [Bool.and_eq_true] at h
  unfold codeB
  rw [List.cons_append, rdS, decide_eq_false (by omega)]
  simp only [cond_false, Int.toNat_natCast]
  rw [rdN_tags l 0 [] t (by omega) h.2]
  rfl
theorem decB_code {s i : List Int} (h1 : setB s = true) (h2 : setB i = true) (t : List Int) : decB (codeB s ++ (codeB i ++ t)) = (0, s, i, ((codeB s ++ codeB i).length : Int)) := by
  unfold decB
  rw [rdS_code h1]
  simp only
  rw [rdS_code h2]
  unfold decT
  simp only [beq_self_eq_true, cond_true, List.length_append, Prod.mk.injEq, true_and]
  omega
theorem rdN_rest : ∀ (n : Nat) (last : Int) (acc r : List Int) {S R : List Int}, rdN n last acc r = (0, S, R) → R = r.drop (4 * n) ∧ 4 * n ≤ r.length
  | 0, _, _, r, _, _, h => by cases h; simp
  | n + 1, last, acc, r, S, R, h => by
    by_cases h4 : r.length < 4
    · rw [rdN_short _ _ _ _ h4] at h; cases h
    · obtain ⟨x0, x1, x2, x3, q, rfl⟩ := four_of r h4
      rw [rdN] at h
      cases hb : (decide (last < numB x0 x1 x2 x3) && decide (numB x0 x1 x2 x3 ≤ 2147483647)) with
      | true =>
        rw [hb] at h
        obtain ⟨e, hl⟩ := rdN_rest n _ _ q h
        refine ⟨?_, by simp; omega⟩
        rw [e, show 4 * (n + 1) = 4 * n + 4 by omega]
        simp
      | false => rw [hb] at h; cases h
end Go.Proofs.Ytdbhppfpalpfmaa
