/-
  Tags three apart: when they are a set; doubled or turned round, what is left of them in order.
-/
import Derived.Test.YtdbhppfpalpfmaaLabSe
namespace Go.Proofs.Ytdbhppfpalpfmaa
open Go.RowKit Go.MapKept
def runZ (f : Int) (n : Nat) : List Int := (List.range n).map fun k : Nat => f + 3 * (k : Int)
theorem runZ_len (f : Int) (n : Nat) : (runZ f n).length = n := by simp [runZ]
theorem runZ_snoc (f : Int) (n : Nat) : runZ f (n + 1) = runZ f n ++ [f + 3 * (n : Int)] := by simp [runZ, List.range_succ]
theorem runZ_lt (f : Int) (n : Nat) : (runZ f n).Pairwise (· < ·) := by
  unfold runZ
  rw [List.pairwise_map]
  exact List.pairwise_lt_range.imp (fun h => by omega)
theorem runZ_mem {f : Int} {n : Nat} {x : Int} (h : x ∈ runZ f n) : f ≤ x ∧ x < f + 3 * (n : Int) := by
  unfold runZ at h
  obtain ⟨k, hk, rfl⟩ := List.mem_map.1 h
  have := List.mem_range.1 hk
  omega
theorem runZ_set (f : Int) (n : Nat) (h0 : 0 < f) (h1 : f ≤ 16777216) (h2 : n < 40) : setB (runZ f n) = decide (n ≤ 16) := by
  by_cases h : n ≤ 16
  · rw [decide_eq_true h]
    exact setB_of (by rw [runZ_len]; exact h) (fun x hx => by have := runZ_mem hx; omega) (runZ_lt f n)
  · rw [decide_eq_false h, ← Bool.not_eq_true]
    intro hs
    have := setB_len hs
    rw [runZ_len] at this
    omega
theorem nd_is {ys zs : List Int} (hz : zs.Pairwise (· < ·)) (hm : ∀ x, x ∈ ys ↔ x ∈ zs) : nd ys = zs := lt_ext (nd_lt ys) hz (fun x => (nd_mem ys x).trans (hm x))
theorem not_set {ys zs : List Int} (hz : zs.Pairwise (· < ·)) (hm : ∀ x, x ∈ ys ↔ x ∈ zs) (h : ys ≠ zs) : setB ys = false := by
  rw [← Bool.not_eq_true]
  exact fun hs => h (lt_ext (setB_lt hs) hz hm)
/-- What the two ways leave: in order it is the tags; a set it is not. -/
def Mixed (f : Int) (n : Nat) (ys : List Int) : Prop := nd ys = runZ f n ∧ setB ys = false ∧ ys.length ≤ n + 1
theorem mixed_of {f : Int} {n : Nat} {ys : List Int} (hl : ys.length ≤ n + 1) (hm : ∀ x, x ∈ ys ↔ x ∈ runZ f n) (h : ys ≠ runZ f n) : Mixed f n ys :=
  ⟨nd_is (runZ_lt f n) hm, not_set (runZ_lt f n) hm h, hl⟩
theorem mixed_twice (f : Int) (n j : Nat) (hj : j < n) : Mixed f n (runZ f n ++ [(runZ f n).getD j 0]) := by
  have hmem : (runZ f n).getD j 0 ∈ runZ f n := by
    rw [List.getD_eq_getElem?_getD, List.getElem?_eq_getElem (by rw [runZ_len]; exact hj)]
    exact List.getElem_mem _
  refine mixed_of (by simp [runZ_len]) (fun x => ?_) (fun e => ?_)
  · rw [List.mem_append]
    constructor
    · rintro (h | h)
      · exact h
      · simp only [List.mem_cons, List.not_mem_nil, or_false] at h; rw [h]; exact hmem
    · exact .inl
  · have := congrArg List.length e
    simp [runZ_len] at this
def swZ (f : Int) (n : Nat) : List Int := ((runZ f n).set 0 ((runZ f n).getD (n - 1) 0)).set (n - 1) ((runZ f n).getD 0 0)
theorem swZ_len (f : Int) (n : Nat) : (swZ f n).length = n := by simp [swZ, runZ_len]
theorem runZ_at (f : Int) (n k : Nat) (h : k < n) : (runZ f n).getD k 0 = f + 3 * (k : Int) := by
  rw [List.getD_eq_getElem?_getD, List.getElem?_eq_getElem (by rw [runZ_len]; exact h)]
  simp [runZ]
theorem mixed_swap (f : Int) (n : Nat) (h : 2 ≤ n) : Mixed f n (swZ f n) := by
  have h0 : 0 < (runZ f n).length := by rw [runZ_len]; omega
  have h1 : n - 1 < (runZ f n).length := by rw [runZ_len]; omega
  have hp : (swZ f n).Perm (runZ f n) := by
    have := List.set_set_perm h0 h1
    unfold swZ
    rw [List.getD_eq_getElem?_getD, List.getElem?_eq_getElem h1, List.getD_eq_getElem?_getD, List.getElem?_eq_getElem h0]
    exact this
  refine mixed_of (by rw [swZ_len]; omega) (fun x => hp.mem_iff) (fun e => ?_)
  have e0 := congrArg (fun l => l.getD 0 0) e
  simp only [swZ, List.getD_eq_getElem?_getD] at e0
  rw [List.getElem?_set_ne (by omega), List.getElem?_set_self h0] at e0
  simp only [← List.getD_eq_getElem?_getD, Option.getD_some] at e0
  rw [runZ_at f n _ (by omega), runZ_at f n _ (by omega)] at e0
  omega
/-- append as one step of a region that draws, to a slice of the call's own. -/
theorem step_append_own {P : Program} {ops : Array Oper} {o : Oper} {a : Act} {w : World} {K : Act → World → Prop} {Q : Exit → Act → World → Prop} {E : Prop}
    (hg : o.guard = none) (s x : Operand) (t : TypeId) (ho : o.op = .call { callee := .builtin .append, args := #[s, x], argTypes := #[t, t] })
    (base : Nat) (e : TypeId) (i : TypeInfo) (ht : P.underlying t = some (.slice e)) (hi : P.info? e = some i) (hz : i.zero = some (.int .i64 0)) (hsize : i.size = 1) (hby : i.bytes = 8)
    (v : Value) (n : Nat) (xs : List Int) (hs : a.eval s = v) (hown : w.ownsRow base e 1 v n (xs.map (Value.int .i64)))
    (ad : Addr) (c : Nat) (y : Int) (hx : a.eval x = .slice (some ad) 1 c) (hc : w.cell? ad = some (.int .i64 y))
    (hb : n ≤ 1000) (hbase : base ≤ w.heap.size)
    (h : ∀ v' w', w'.ownsRow base e 1 v' (n + 1) ((xs ++ [y]).map (Value.int .i64)) → Below base w w' → K (a.put o.dst v') w') :
    if Region.wanted o (yielded ops a.tmps) = true then Oper.wp P o a w K Q else E := by
  have hw : Region.wanted o (yielded ops a.tmps) = true := by simp [Region.wanted, hg]
  rw [if_pos hw]
  refine wp_append_own w s x t ho base e i (.int .i64 0) 1 8 ht hi hz hsize hby rfl (by decide) v n _ hs hown ad 1 c [.int .i64 y] hx rfl (fun j u hu => ?_) (fun u hu => by simp only [List.mem_cons, List.not_mem_nil, or_false] at hu; rw [hu]; rfl) (by unfold maxLen; omega) (by omega) hbase (fun v' w' h1 h2 _ => h v' w' (by rw [List.map_append]; exact h1) ((Below.refl base w).grown h2 hbase (fun k ek => ?_)))
  · cases j with
    | zero =>
      simp only [List.getElem?_cons_zero, Option.some.injEq] at hu
      rw [← hu, ← hc]
      congr 1
    | succ j => simp at hu
  · rcases hown.2 with ⟨rfl, _⟩ | ⟨g, cap, cur, rfl, h1, _⟩
    · simp [Value.ownBlock] at ek
    · simp only [Value.ownBlock, Option.some.injEq] at ek; subst ek; exact h1
end Go.Proofs.Ytdbhppfpalpfmaa
