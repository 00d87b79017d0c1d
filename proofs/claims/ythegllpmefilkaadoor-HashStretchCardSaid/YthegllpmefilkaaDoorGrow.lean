/-
  append(b, c) of one byte onto a row of the call's own, also one that a conversion made (it bears the run-time's mark behind its last cell).
-/
import Derived.Test.YthegllpmefilkaaDoorStretch
import Derived.ArgAppend
namespace Go.Proofs.YthegllpmefilkaaDoor
open Go.RowKit Go.MapKept
/-- v reads as xs, and lies in a block from B on whose cells may be written. -/
def LiesB (T : TypeId) (w : World) (B : Nat) (v : Value) (xs : List UInt8) : Prop :=
  ∃ g cap cur fr, v = .slice (some ⟨g, 0, none⟩) xs.length cap ∧ B ≤ g ∧ w.heap[g]? = some (.cells cur T fr) ∧ cur.size = cap ∧ cap ≤ maxLen ∧ xs.length ≤ cap ∧ cur.toList.take xs.length = cel xs ∧ (fr = (0, 0) ∨ fr = (cap, cap + 1))
theorem LiesB.keep {T : TypeId} {w w' : World} {B : Nat} {v : Value} {xs : List UInt8} {l : List Nat} (h : LiesB T w B v xs) (hf : Fr l w w') (hl : ∀ x ∈ l, x < B) : LiesB T w' B v xs := by
  obtain ⟨g, cap, cur, fr, h1, h2, h3, h4⟩ := h
  exact ⟨g, cap, cur, fr, h1, h2, hf.keep h3 (fun hx => by have := hl g hx; omega), h4⟩
theorem LiesB.range {T : TypeId} {w : World} {B : Nat} {v : Value} {xs : List UInt8} (h : LiesB T w B v xs) : ∃ g cap, v = .slice (some ⟨g, 0, none⟩) xs.length cap ∧ B ≤ g ∧ g < w.heap.size ∧ xs.length ≤ cap ∧ cap ≤ 9223372036854775807 ∧ BytesAt w g 0 xs := by
  obtain ⟨g, cap, cur, fr, h1, h2, h3, h4, h5, h6, h7, _⟩ := h
  refine ⟨g, cap, h1, h2, lt_of_heap h3, h6, by unfold maxLen at h5; omega, fun j v hv => ?_⟩
  rw [Nat.zero_add, box_cell h3]
  have : (cur.toList.take xs.length)[j]? = some v := by rw [h7]; exact hv
  rw [List.getElem?_take] at this
  split at this
  · simpa using this
  · cases this
section
variable {P : Program} {ops : Array Oper} {rest : List Oper} {o : Oper} {a : Act} {w : World} {Q : Exit → Act → World → Prop}
theorem wL_append1 (hgd : o.guard = none) (s x : Operand) (t : TypeId) (ho : o.op = .call { callee := .builtin .append, args := #[s, x], argTypes := #[t, t] })
    (e : TypeId) (i : TypeInfo) (z : Value) (ht : P.underlying t = some (.slice e)) (hi : P.info? e = some i) (hz : i.zero = some z) (hsize : i.size = 1) (hby : i.bytes = 1) (hzs : z.cells.size = 1)
    (v : Value) (hs : a.eval s = v) (B : Nat) (xs : List UInt8) (hl : LiesB e w B v xs) (b : UInt8) (ad : Addr) (c : Nat) (hx : a.eval x = .slice (some ad) 1 c) (hn : w.cell? (ad.add 0) = some (.int .u8 b.toNat)) (hlen : xs.length + 1 ≤ 140737488355328) (hB : B ≤ w.heap.size)
    (a0 : World) (hf0 : Fr [] a0 w) (h0 : a0.heap.size ≤ B)
    (h : ∀ v' w', LiesB e w' B v' (xs ++ [b]) → Fr [] a0 w' → wpList P ops Q rest (a.put o.dst v') w') : wpList P ops Q (o :: rest) a w := by
  obtain ⟨g, cap, cur, fr, rfl, h2, h3, h4, h5, h6, h7, h8⟩ := hl
  have hnews : ∀ j u, [Value.int .u8 b.toNat][j]? = some u → w.cell? (ad.add j) = some u := fun j u hu => by
    match j, hu with
    | 0, hu => simp at hu; rw [← hu]; exact hn
  have hone : ∀ u ∈ [Value.int .u8 b.toNat], u.oneCell' = true := fun u hu => by simp at hu; subst hu; rfl
  refine wpList_plain hgd fun K hK => ?_
  by_cases hroom : xs.length + 1 ≤ cap
  · have hcs : w.cell? ⟨g, xs.length, none⟩ = cur[xs.length]? := box_cell h3 _
    have hlt : xs.length < cur.size := by omega
    have hfz : w.frozen? ⟨g, xs.length, none⟩ = false := by
      rcases h8 with rfl | rfl <;> simp only [World.frozen?, h3] <;> simp <;> omega
    have hrun := run_append_room_cells (P := P) w t o.type e i ht hi g 0 xs.length cap ad 1 c [.int .u8 b.toNat] (by rw [hsize]; rfl) hnews hone hroom
      (fun j hj => by
        have : j = 0 := by simpa using hj
        subst this
        rw [hsize]
        simp only [Nat.zero_add, Nat.mul_one, Nat.add_zero]
        rw [hcs]; simp [hlt])
      (fun j hj => by
        have : j = 0 := by simpa using hj
        subst this
        rw [hsize]
        simp only [Nat.zero_add, Nat.mul_one, Nat.add_zero]
        exact hfz)
    rw [hsize] at hrun
    simp only [Nat.zero_add, Nat.mul_one, World.setCells] at hrun
    unfold Oper.wp
    simp [execOp, ho, resolve, invoke, builtin, hs, hx, hrun, Result.andThen]
    refine hK _ _ (h _ _ ⟨g, cap, _, fr, by simp, h2, box_set h3 xs.length (.int .u8 b.toNat), by simpa using h4, h5, by simpa using hroom, ?_, h8⟩ (hf0.setCell (.inr (by show a0.heap.size ≤ g; omega)) _))
    have hc7 : (cur.toList.set xs.length (.int .u8 b.toNat)).take (xs.length + 1) = cel xs ++ [.int .u8 b.toNat] := by
      rw [List.take_set, List.take_succ_eq_append_getElem (by simpa using hlt), h7, List.set_append_right _ _ (by rw [cel_length]; exact Nat.le_refl _), cel_length, Nat.sub_self]
      rfl
    simp only [List.length_append, List.length_singleton, Array.toList_setIfInBounds]
    rw [hc7, cel_append]
    rfl
  · obtain ⟨v', w', hrun, hown, hgrow⟩ := run_append_arg_grows (P := P) w t o.type e i z 1 1 ht hi hz hsize hby hzs (by decide) ⟨g, 0, none⟩ xs.length cap (cel xs) (by rw [cel_length]; omega)
      (fun j u hu => by
        rw [Addr.add_mid, Nat.zero_add, box_cell h3]
        have : (cur.toList.take xs.length)[j]? = some u := by rw [h7]; exact hu
        rw [List.getElem?_take] at this
        split at this
        · simpa using this
        · cases this)
      ad 1 c [.int .u8 b.toNat] rfl hnews (by omega) (by unfold maxLen; omega) (by omega)
    unfold Oper.wp
    simp [execOp, ho, resolve, invoke, builtin, hs, hx, hrun, Result.andThen]
    refine hK _ _ (h _ _ ?_ (hf0.grown hgrow (by simp)))
    rcases hown.2 with ⟨_, h9⟩ | ⟨g', cap', cur', rfl, hb', hg', k1, k2, k3, k4⟩
    · omega
    · refine ⟨g', cap', cur', (0, 0), by simp, Nat.le_trans hB hb', hg', by simpa using k3, k2, by simpa using k1, ?_, .inl rfl⟩
      rw [List.length_append, List.length_singleton, cel_append, show cel [b] = [.int .u8 b.toNat] from rfl]
      simpa using k4
/-- []byte(s), and where it lies. -/
theorem wL_bytesLies (hg : o.guard = none) (src dst e : TypeId) (x : Operand) (hop : o.op = .convert src dst x) (hs : P.underlying src = some .string) (hd : P.underlying dst = some (.slice e)) (he : P.underlying e = some (.int .u8))
    (s : List UInt8) (hx : a.eval x = .string ⟨s.toArray⟩) (hl : s.length ≤ maxLen)
    (h : ∀ v w', Fr [] w w' → LiesB e w' w.heap.size v s → wpList P ops Q rest (a.put o.dst v) w') : wpList P ops Q (o :: rest) a w := by
  have hsz : (⟨s.toArray⟩ : ByteArray).size = s.length := by simp [ByteArray.size]
  have hrun := Lib.run_convert_string_bytes (P := P) w src dst e ⟨s.toArray⟩ hs hd he
  have hge := grownCap_ge w s.length 0 e
  have hcs : (Lib.bytesCells w e ⟨s.toArray⟩).size = grownCap w s.length 0 e := by
    simp [Lib.bytesCells]; rw [hsz]; omega
  refine wpList_val hg ?_ (h (.slice (some ⟨w.heap.size, 0, none⟩) s.length (grownCap w s.length 0 e)) (Lib.bytesWorld w e ⟨s.toArray⟩) ⟨rfl, rfl, rfl, by rw [Lib.bytesWorld_size]; omega, fun k hk _ => Lib.bytesWorld_at_old w e _ k hk⟩
    ⟨w.heap.size, _, _, _, rfl, Nat.le_refl _, Lib.bytesWorld_at_new w e _, hcs, grownCap_le_maxLen _ _ _ _ hl, hge, ?_, .inr (by rw [hcs])⟩)
  · rw [hsz] at hrun
    simp [execOp, hop, hx, hrun]
  · simp [Lib.bytesCells, cel]
end
end Go.Proofs.YthegllpmefilkaaDoor
