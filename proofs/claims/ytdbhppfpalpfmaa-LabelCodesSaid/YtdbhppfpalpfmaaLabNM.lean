/-
  A list's elements, rising, each once: by sorting and compacting, and one by one.
-/
import Derived.Test.YtdbhppfpalpfmaaLabM
import Derived.Lib.SlicesCompact
namespace Go.Proofs.Ytdbhppfpalpfmaa
theorem getB (zs : List Int) (j : Nat) (h : j < zs.length) : zs.toArray[j]! = zs[j] := by simp [h]
theorem compact_mem (zs : List Int) (x : Int) : x ∈ Go.Lib.compact zs ↔ x ∈ zs := by
  unfold Go.Lib.compact Go.Lib.compactUpTo
  rw [List.mem_map]
  constructor
  · rintro ⟨j, hj, rfl⟩
    have hj' := List.mem_range.1 (List.mem_filter.1 hj).1
    show zs.toArray[j]! ∈ zs
    rw [getB zs j hj']; exact List.getElem_mem hj'
  · intro hx
    obtain ⟨n, hn, he⟩ := List.mem_iff_getElem.1 hx
    have key : ∀ n (hn : n < zs.length), zs[n] = x → ∃ j, j ∈ (List.range zs.length).filter (Go.Lib.keeps zs.toArray) ∧ zs.toArray[j]! = x := by
      intro n
      induction n with
      | zero =>
        intro hn he
        exact ⟨0, List.mem_filter.2 ⟨List.mem_range.2 hn, by simp [Go.Lib.keeps]⟩, by rw [getB zs 0 hn]; exact he⟩
      | succ n ih =>
        intro hn he
        by_cases h : zs[n] = x
        · exact ih (by omega) h
        · refine ⟨n + 1, List.mem_filter.2 ⟨List.mem_range.2 hn, ?_⟩, by rw [getB zs _ hn]; exact he⟩
          refine Go.Lib.keeps_pos ?_
          rw [getB zs (n + 1) hn, Nat.add_sub_cancel, getB zs n (by omega), he]
          exact fun e => h e.symm
    exact key n hn he
theorem compact_lt {zs : List Int} (h : asc zs) : (Go.Lib.compact zs).Pairwise (· < ·) := by
  unfold Go.Lib.compact Go.Lib.compactUpTo
  rw [List.pairwise_map]
  have h1 : ((List.range zs.length).filter (Go.Lib.keeps zs.toArray)).Pairwise (· < ·) := (List.pairwise_lt_range (n := zs.length)).sublist List.filter_sublist
  refine List.Pairwise.imp_of_mem (fun {i j} hi hj hij => ?_) h1
  obtain ⟨hi1, _⟩ := List.mem_filter.1 hi
  obtain ⟨hj1, hj2⟩ := List.mem_filter.1 hj
  have hi1 := List.mem_range.1 hi1
  have hj1 := List.mem_range.1 hj1
  rw [getB zs i hi1, getB zs j hj1]
  have hne : zs[j] ≠ zs[j - 1] := by
    unfold Go.Lib.keeps at hj2
    have := of_decide_eq_true hj2
    rcases this with h0 | h0
    · omega
    · rw [getB zs j hj1, getB zs (j - 1) (by omega)] at h0; exact h0
  have ha := List.pairwise_iff_getElem.1 h
  have h2 := ha (j - 1) j (by omega) hj1 (by omega)
  by_cases e : i = j - 1
  · subst e; omega
  · have h3 := ha i (j - 1) hi1 (by omega) (by omega)
    omega
/-- A tag put into a rising list. -/
def insB (l : List Int) (t : Int) : List Int := l.takeWhile (fun x => decide (x < t)) ++ t :: l.dropWhile (fun x => decide (x < t))
theorem insB_mem (l : List Int) (t x : Int) : x ∈ insB l t ↔ x ∈ l ∨ x = t := by
  unfold insB
  have e := List.takeWhile_append_dropWhile (p := fun x => decide (x < t)) (l := l)
  have h : x ∈ l ↔ x ∈ l.takeWhile (fun x => decide (x < t)) ∨ x ∈ l.dropWhile (fun x => decide (x < t)) := by rw [← List.mem_append, e]
  simp only [List.mem_append, List.mem_cons]
  rw [h]
  constructor
  · rintro (h | h | h)
    · exact .inl (.inl h)
    · exact .inr h
    · exact .inl (.inr h)
  · rintro ((h | h) | h)
    · exact .inl h
    · exact .inr (.inr h)
    · exact .inr (.inl h)
theorem take_lt : ∀ (l : List Int) (t x : Int), x ∈ l.takeWhile (fun x => decide (x < t)) → x < t
  | [], _, _, h => by simp at h
  | y :: l, t, x, h => by
    rw [List.takeWhile_cons] at h
    split at h
    · rename_i hy
      rcases List.mem_cons.1 h with rfl | h
      · simpa using hy
      · exact take_lt l t x h
    · simp at h
theorem drop_ge : ∀ {l : List Int} (_ : l.Pairwise (· < ·)) (t x : Int), x ∈ l.dropWhile (fun x => decide (x < t)) → t ≤ x
  | [], _, _, _, h => by simp at h
  | y :: l, hp, t, x, h => by
    rw [List.dropWhile_cons] at h
    obtain ⟨h1, h2⟩ := List.pairwise_cons.1 hp
    split at h
    · exact drop_ge h2 t x h
    · rename_i hy
      have hy : t ≤ y := by simpa using hy
      rcases List.mem_cons.1 h with rfl | h
      · exact hy
      · have := h1 x h; omega
theorem insB_lt {l : List Int} (h : l.Pairwise (· < ·)) {t : Int} (ht : t ∉ l) : (insB l t).Pairwise (· < ·) := by
  unfold insB
  have e := List.takeWhile_append_dropWhile (p := fun x => decide (x < t)) (l := l)
  rw [← e, List.pairwise_append] at h
  obtain ⟨h1, h2, h3⟩ := h
  have hp : l.Pairwise (· < ·) := by rw [← e]; exact List.pairwise_append.2 ⟨h1, h2, h3⟩
  rw [List.pairwise_append, List.pairwise_cons]
  refine ⟨h1, ⟨fun x hx => ?_, h2⟩, fun a ha b hb => ?_⟩
  · have := drop_ge hp t x hx
    have hm : x ∈ l := by rw [← e]; exact List.mem_append.2 (.inr hx)
    have : x ≠ t := fun e => ht (e ▸ hm)
    omega
  · have := take_lt l t a ha
    rcases List.mem_cons.1 hb with rfl | hb
    · exact this
    · exact h3 a ha b hb
theorem insB_len (l : List Int) (t : Int) : (insB l t).length = l.length + 1 := by
  unfold insB
  have e := congrArg List.length (List.takeWhile_append_dropWhile (p := fun x => decide (x < t)) (l := l))
  rw [List.length_append] at e
  rw [List.length_append, List.length_cons]
  omega
/-- A list's elements, rising, each once. -/
def ndF : List Int → List Int → List Int
  | acc, [] => acc
  | acc, x :: r => ndF (if acc.contains x then acc else insB acc x) r
def nd (l : List Int) : List Int := ndF [] l
theorem ndF_spec : ∀ (l : List Int) {acc : List Int}, acc.Pairwise (· < ·) → (ndF acc l).Pairwise (· < ·) ∧ (∀ x, x ∈ ndF acc l ↔ x ∈ acc ∨ x ∈ l) ∧ acc.length ≤ (ndF acc l).length
  | [], acc, h => ⟨h, by simp [ndF], Nat.le_refl _⟩
  | y :: l, acc, h => by
    unfold ndF
    by_cases hc : acc.contains y = true
    · rw [if_pos hc]
      obtain ⟨h1, h2, h3⟩ := ndF_spec l h
      refine ⟨h1, fun x => ?_, h3⟩
      rw [h2, List.mem_cons]
      have : y ∈ acc := List.contains_iff_mem.1 hc
      constructor
      · rintro (h | h)
        · exact .inl h
        · exact .inr (.inr h)
      · rintro (h | rfl | h)
        · exact .inl h
        · exact .inl this
        · exact .inr h
    · rw [if_neg hc]
      have hn : y ∉ acc := fun h => hc (List.contains_iff_mem.2 h)
      obtain ⟨h1, h2, h3⟩ := ndF_spec l (insB_lt h hn)
      refine ⟨h1, fun x => ?_, by rw [insB_len] at h3; omega⟩
      rw [h2, insB_mem, List.mem_cons, or_assoc]
theorem nd_lt (l : List Int) : (nd l).Pairwise (· < ·) := (ndF_spec l List.Pairwise.nil).1
theorem nd_mem (l : List Int) (x : Int) : x ∈ nd l ↔ x ∈ l := by rw [nd, (ndF_spec l List.Pairwise.nil).2.1 x]; simp
theorem ndF_snoc : ∀ (l acc : List Int) (x : Int), ndF acc (l ++ [x]) = if (ndF acc l).contains x then ndF acc l else insB (ndF acc l) x
  | [], acc, x => rfl
  | y :: l, acc, x => by rw [List.cons_append, ndF, ndF, ndF_snoc l]
theorem nd_snoc (l : List Int) (x : Int) : nd (l ++ [x]) = if (nd l).contains x then nd l else insB (nd l) x := ndF_snoc l [] x
theorem nd_len_mono : ∀ (l r : List Int), (nd l).length ≤ (nd (l ++ r)).length := by
  intro l r
  have : ∀ (l r acc : List Int), ndF acc (l ++ r) = ndF (ndF acc l) r := by
    intro l
    induction l with
    | nil => intro r acc; rfl
    | cons y l ih => intro r acc; rw [List.cons_append, ndF, ndF, ih]
  unfold nd
  rw [this]
  exact (ndF_spec r (nd_lt l)).2.2
theorem compact_srt (l : List Int) : Go.Lib.compact (srt l) = nd l := lt_ext (compact_lt (srt_asc l)) (nd_lt l) (fun x => by rw [compact_mem, srt_mem, nd_mem])
end Go.Proofs.Ytdbhppfpalpfmaa
