/-
  A text in two pieces: its whole blocks, and what is left of it, padded.
-/
import Derived.Test.YthegllpmefilkaaDoorShaEnd
namespace Go.Proofs.YthegllpmefilkaaDoor
theorem mixN_take (s : St) (a c : List UInt8) : ∀ n, 64 * n ≤ a.length → mixN s (a ++ c) n = mixN s a n
  | 0, _ => rfl
  | n + 1, h => by
    have e : ((a ++ c).drop (64 * n)).take 64 = (a.drop (64 * n)).take 64 := by
      rw [List.drop_append_of_le_length (by omega), List.take_append_of_le_length (by rw [List.length_drop]; omega)]
    unfold mixN
    rw [mixN_take s a c n (by omega), e]
theorem mixN_add (s : St) (a c : List UInt8) (n : Nat) (h : a.length = 64 * n) : ∀ k, mixN s (a ++ c) (n + k) = mixN (mixN s a n) c k
  | 0 => mixN_take s a c n (by omega)
  | k + 1 => by
    have e : ((a ++ c).drop (64 * (n + k))).take 64 = (c.drop (64 * k)).take 64 := by
      rw [show 64 * (n + k) = a.length + 64 * k by omega, List.drop_append, List.drop_eq_nil_of_le (by omega)]
      simp
    show mixS (mixN s (a ++ c) (n + k)) (((a ++ c).drop (64 * (n + k))).take 64) = mixS (mixN (mixN s a n) c k) ((c.drop (64 * k)).take 64)
    rw [mixN_add s a c n h k, e]
theorem lenB_length (n : Nat) : (lenB n).length = 8 := by simp [lenB]
theorem lenB_get (n i : Nat) (h : i < 8) : (lenB n)[i]? = some (byteI ((n : Int) * 8 / 2 ^ (56 - 8 * i))) := by simp [lenB, h]
theorem endL_eq (r : List UInt8) (size n : Nat) (h : r.length + 9 ≤ size) : endL r size n 8 = r ++ [128] ++ List.replicate (size - r.length - 9) 0 ++ lenB n := by
  apply List.ext_getElem?
  intro j
  by_cases hj : j < size
  · rw [endL_get _ _ _ _ _ hj]
    by_cases h1 : j < r.length
    · rw [if_pos h1, List.append_assoc, List.append_assoc, List.getElem?_append_left h1]
      simp [h1]
    · rw [if_neg h1]
      by_cases h2 : j = r.length
      · rw [if_pos h2, List.append_assoc, List.append_assoc, List.getElem?_append_right (by omega), h2, Nat.sub_self]
        rfl
      · rw [if_neg h2]
        by_cases h3 : size - 8 ≤ j
        · rw [if_pos h3, List.getElem?_append_right (by simp; omega)]
          have e : j - (r ++ [128] ++ List.replicate (size - r.length - 9) (0 : UInt8)).length = j - (size - 8) := by simp; omega
          rw [e, lenB_get _ _ (by omega), show 8 * (size - 1 - j) = 56 - 8 * (j - (size - 8)) by omega]
        · rw [if_neg h3, List.getElem?_append_left (by simp; omega), List.getElem?_append_right (by simp; omega), List.getElem?_replicate, if_pos (by simp; omega)]
  · rw [List.getElem?_eq_none (by rw [endL_length]; omega), List.getElem?_eq_none (by simp [lenB_length]; omega)]
theorem sha_split (m : List UInt8) (N M : Nat) (hN : m.length / 64 = N) (hM : (64 * M = 64 ∧ (m.drop (64 * N)).length < 56) ∨ (64 * M = 128 ∧ 56 ≤ (m.drop (64 * N)).length ∧ (m.drop (64 * N)).length < 64)) :
    shaB m = outB (mixN (mixN st0 (m.take (64 * N)) N) (endL (m.drop (64 * N)) (64 * M) m.length 8) M).l := by
  have hr : (m.drop (64 * N)).length = m.length - 64 * N := List.length_drop
  have hp : padded m = m.take (64 * N) ++ endL (m.drop (64 * N)) (64 * M) m.length 8 := by
    rw [endL_eq _ _ _ (by omega)]
    unfold padded
    have e : padZ m.length = 64 * M - (m.drop (64 * N)).length - 9 := by unfold padZ; omega
    rw [e, ← List.append_assoc, ← List.append_assoc, ← List.append_assoc, List.take_append_drop]
  have hl : (padded m).length / 64 = N + M := by
    rw [hp, List.length_append, endL_length, List.length_take]; omega
  unfold shaB
  rw [hl, hp, mixN_add _ _ _ N (by rw [List.length_take]; omega)]
theorem padded_length (m : List UInt8) : (padded m).length % 64 = 0 := by
  simp only [padded, List.length_append, List.length_replicate, lenB_length, padZ, List.length_singleton]; omega
end Go.Proofs.YthegllpmefilkaaDoor
