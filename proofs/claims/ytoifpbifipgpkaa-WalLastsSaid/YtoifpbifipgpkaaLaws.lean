/-
  The operations on maps from ints and on whole arrays, as steps of a walk.
-/
import Derived.Test.YtoifpbifipgpkaaMapI
import Derived.Test.YtoifpbifipgpkaaProg
import Derived.WalkLawsBesides
import Derived.Lib.Hide
import Derived.StillTailTactics
import Derived.Deep.WholeRow
import Derived.Lib.ConvBytes
import Derived.Laws.BytesArg
namespace Go.Proofs.Ytoifpbifipgpkaa
open Go.RowKit Go.MapKept
open Go.ChangeMaps (setBlock)

section
variable {P : Program} {ops : Array Oper} {rest : List Oper} {o : Oper} {a : Act} {w w' : World} {Q : Exit → Act → World → Prop}
theorem wpList_val (hg : o.guard = none) {v : Value} (hrun : (execOp a.eval o).run P w = .ok (.value v) w') (h : wpList P ops Q rest (a.put o.dst v) w') : wpList P ops Q (o :: rest) a w :=
  wpList_plain hg fun K hK => by unfold Oper.wp; rw [hrun]; exact hK _ _ h
theorem wpList_unit (hg : o.guard = none) (hrun : (execOp a.eval o).run P w = .ok .skip w') (h : wpList P ops Q rest (a.put o.dst undef) w') : wpList P ops Q (o :: rest) a w :=
  wpList_plain hg fun K hK => by unfold Oper.wp; rw [hrun]; exact hK _ _ h
/-- v, ok := m[i] -/
theorem wL_lookup (hg : o.guard = none) (m x : Operand) (T : TypeId) (hop : o.op = .lookup T m x true) (K E : TypeId) (hT : P.underlying T = some (.map K E)) (hK : P.underlying K = some (.int .i64))
    (z : Value) (hz : ∀ w : World, (zeroValue E).run P w = .ok z w) (b : Nat) (hm : a.eval m = .map (some b)) (i : Int) (hx : a.eval x = .int .i64 i) (f : Int → Option Value) (hmap : IMap w b f)
    (r : Option Value) (hr : f i = r) (h : wpList P ops Q rest (a.put o.dst (.tuple #[r.getD z, .bool r.isSome])) w) : wpList P ops Q (o :: rest) a w := by
  subst hr
  refine wpList_val hg (v := .tuple #[(f i).getD z, .bool (f i).isSome]) (w' := w) ?_ h
  simp [execOp, hop, hm, hx, run_lookup_i hmap hT hK (hz w)]
theorem wL_mapUpdate (hg : o.guard = none) (m x y : Operand) (T : TypeId) (hop : o.op = .mapUpdate T m x y) (K E : TypeId) (hT : P.underlying T = some (.map K E)) (hK : P.underlying K = some (.int .i64))
    (b : Nat) (hm : a.eval m = .map (some b)) (i : Int) (hx : a.eval x = .int .i64 i) (v : Value) (hy : a.eval y = v) (f : Int → Option Value) (hmap : IMap w b f)
    (h : ∀ w', Fr [b] w w' → IMap w' b (fun j => if j = i then some v else f j) → wpList P ops Q rest (a.put o.dst undef) w') : wpList P ops Q (o :: rest) a w := by
  obtain ⟨es, clk, hrun, hh⟩ := run_mapUpdate_i (P := P) hmap hT hK i v
  refine wpList_unit hg (w' := setBlock w b (.map es clk)) ?_ (h _ ((Fr.refl _ _).setBlock (.inl (by simp)) _) ⟨es, clk, heap_setB_same hmap.lt _, hh⟩)
  simp [execOp, hop, hm, hx, hy, hrun]
theorem wL_delete (hg : o.guard = none) (m x : Operand) (T K' : TypeId) (hop : o.op = .call { callee := .builtin .delete, args := #[m, x], argTypes := #[T, K'] }) (K E : TypeId) (hT : P.underlying T = some (.map K E)) (hK : P.underlying K = some (.int .i64))
    (b : Nat) (hm : a.eval m = .map (some b)) (i : Int) (hx : a.eval x = .int .i64 i) (f : Int → Option Value) (hmap : IMap w b f)
    (h : ∀ w', Fr [b] w w' → IMap w' b (fun j => if j = i then none else f j) → wpList P ops Q rest (a.put o.dst (.tuple #[])) w') : wpList P ops Q (o :: rest) a w := by
  obtain ⟨es, clk, hrun, hh⟩ := run_delete_i (P := P) (K' := K') (ty := o.type) hmap hT hK i
  refine wpList_val hg (v := .tuple #[]) (w' := setBlock w b (.map es clk)) ?_ (h _ ((Fr.refl _ _).setBlock (.inl (by simp)) _) ⟨es, clk, heap_setB_same hmap.lt _, hh⟩)
  simp [execOp, hop, resolve, invoke, builtin, hm, hx, hrun]
theorem wL_clear (hg : o.guard = none) (m : Operand) (T : TypeId) (hop : o.op = .call { callee := .builtin .clear, args := #[m], argTypes := #[T] }) (K E : TypeId) (hT : P.underlying T = some (.map K E))
    (b : Nat) (hm : a.eval m = .map (some b)) (f : Int → Option Value) (hmap : IMap w b f)
    (h : ∀ w', Fr [b] w w' → IMap w' b (fun _ => none) → wpList P ops Q rest (a.put o.dst (.tuple #[])) w') : wpList P ops Q (o :: rest) a w := by
  obtain ⟨es, clk, hrun, hh⟩ := run_clear_i (P := P) (ty := o.type) hmap hT
  refine wpList_val hg (v := .tuple #[]) (w' := setBlock w b (.map es clk)) ?_ (h _ ((Fr.refl _ _).setBlock (.inl (by simp)) _) ⟨es, clk, heap_setB_same hmap.lt _, hh⟩)
  simp [execOp, hop, resolve, invoke, builtin, hm, hrun]
/-- The entries that are still to come. -/
def toCome (es : Array MapEntry) (seen : Array Nat) : Nat := (leftOf es seen).size
theorem wL_range (hg : o.guard = none) (m : Operand) (T : TypeId) (hop : o.op = .range T m) (K E : TypeId) (hT : P.underlying T = some (.map K E))
    (b : Nat) (hm : a.eval m = .map (some b)) (es : Array MapEntry) (clk : Nat) (hb : w.heap[b]? = some (.map es clk))
    (h : wpList P ops Q rest (a.put o.dst (.pointer (some ⟨w.heap.size, 0, none⟩))) (w.alloc (.mapIter (some b) clk #[] clk))) : wpList P ops Q (o :: rest) a w := by
  refine wpList_val hg ?_ h
  simp [execOp, hop, hm, run_range_map w T K E b es clk hT hb]
/-- The next entry, whichever the tape says; or none is left. -/
theorem wL_next (hg : o.guard = none) (x : Operand) (hop : o.op = .next x false) (r b : Nat) (hx : a.eval x = .pointer (some ⟨r, 0, none⟩)) (es : Array MapEntry) (clk : Nat) (seen : Array Nat)
    (hr : w.heap[r]? = some (.mapIter (some b) clk seen clk)) (hb : w.heap[b]? = some (.map es clk)) (hst : Stamped es clk)
    (h0 : toCome es seen = 0 → wpList P ops Q rest (a.put o.dst (.tuple #[.bool false])) w)
    (h1 : ∀ e w', e ∈ es.toList → seen.contains e.born = false → toCome es (seen.push e.born) < toCome es seen → Fr [r] w w' → w'.heap[r]? = some (.mapIter (some b) clk (seen.push e.born) clk) → w'.heap[b]? = some (.map es clk) →
      wpList P ops Q rest (a.put o.dst (.tuple #[.bool true, e.key, e.val])) w') : wpList P ops Q (o :: rest) a w := by
  have hne : b ≠ r := fun e => by subst e; rw [hr] at hb; cases hb
  rcases run_next_at (P := P) w o.type r b clk clk seen es clk hr hb hst.1 (Nat.le_refl _) with ⟨hl, hrun⟩ | ⟨e, he, w1, hw1, hrun⟩
  · refine wpList_val hg ?_ (h0 hl)
    simp [execOp, hop, hx, hrun]
  · obtain ⟨hm, hc⟩ := mem_left he
    have hw : Fr [r] w w1 := by rcases hw1 with rfl | rfl; exact Fr.refl _ _; exact (Fr.refl _ _).drew
    have hlt : r < w1.heap.size := Nat.lt_of_lt_of_le (lt_of_heap hr) hw.size
    refine wpList_val hg ?_ (h1 e _ hm hc (left_shrinks es seen e he) (hw.setBlock (.inl (by simp)) _) (heap_setB_same hlt _) (by rw [heap_setB_other hne]; exact hw.keep hb (by simpa using hne)))
    simp [execOp, hop, hx, hrun]
theorem wL_entry (hg : o.guard = none) (x : Operand) (hop : o.op = .entry x) (r b : Nat) (hx : a.eval x = .pointer (some ⟨r, 0, none⟩)) (es : Array MapEntry) (clk : Nat) (seen : Array Nat) (e : MapEntry)
    (hr : w.heap[r]? = some (.mapIter (some b) clk (seen.push e.born) clk)) (hb : w.heap[b]? = some (.map es clk)) (hst : Stamped es clk) (he : e ∈ es.toList) (kv vv : Value) (hkv : e.key = kv) (hvv : e.val = vv)
    (h : wpList P ops Q rest (a.put o.dst (.tuple #[kv, vv])) w) : wpList P ops Q (o :: rest) a w := by
  subst hkv hvv
  refine wpList_val hg ?_ h
  simp [execOp, hop, hx, run_entry_at w r b clk seen es clk e hr hb he hst.2.1]
/-- A new variable of an array's type. -/
theorem wL_allocW (hg : o.guard = none) (T : TypeId) (hop : o.op = .alloc T) (cs : Array Value) (hz : ∀ w : World, (zeroValue T).run P w = .ok (.agg cs) w)
    (h : wpList P ops Q rest (a.put o.dst (.pointer (some ⟨w.heap.size, 0, none⟩))) (w.alloc (.cells cs T))) : wpList P ops Q (o :: rest) a w := by
  refine wpList_val hg ?_ h
  simp [execOp, hop, Instr.alloc, hz, newVar, newRow, Value.cells]
/-- A whole array into the variable that was made last. -/
theorem wL_storeNew (hg : o.guard = none) (T : TypeId) (x y : Operand) (hop : o.op = .store T x y) (w : World) (g : Nat) (hx : a.eval x = .pointer (some ⟨g, 0, none⟩)) (hgs : g = w.heap.size) (cs : Array Value) (hy : a.eval y = .agg cs)
    (cur : Array Value) (hi : (P.info? T).map (·.size) = some cs.size) (hs : cur.size = cs.size) (h1 : cs.all (·.oneCell') = true)
    (h : wpList P ops Q rest (a.put o.dst undef) (w.alloc (.cells cs T))) : wpList P ops Q (o :: rest) a (w.alloc (.cells cur T)) := by
  subst hgs
  refine wpList_unit hg ?_ h
  have hr := run_storeAt_new (P := P) w T cur cs hi hs h1
  simp only [execOp, hop, hx, hy, Sem.run_bind, Sem.run_pure, Result.andThen_ok, hr]
/-- A whole array out of the middle of a block. -/
theorem wL_loadMid (hg : o.guard = none) (T : TypeId) (x : Operand) (hop : o.op = .load T x) (b off : Nat) (hx : a.eval x = .pointer (some ⟨b, off, none⟩)) (cs : List Value) (hc : w.rangeAt b off cs)
    (n : Nat) (e : TypeId) (hu : P.underlying T = some (.array n e)) (hi : (P.info? T).map (·.size) = some cs.length)
    (h : wpList P ops Q rest (a.put o.dst (.agg cs.toArray)) w) : wpList P ops Q (o :: rest) a w :=
  wpList_load_mid hg T x hop b off hx cs (.array n e) hc hu rfl hi h
/-- A whole array into a block that holds one. -/
theorem wL_storeW (hg : o.guard = none) (T : TypeId) (x y : Operand) (hop : o.op = .store T x y) (g : Nat) (hx : a.eval x = .pointer (some ⟨g, 0, none⟩)) (cs : Array Value) (hy : a.eval y = .agg cs)
    (t : TypeId) (cur : Array Value) (hgc : w.heap[g]? = some (.cells cur t (0, 0))) (hi : (P.info? T).map (·.size) = some cs.size) (hs : cur.size = cs.size) (h1 : cs.all (·.oneCell') = true)
    (h : wpList P ops Q rest (a.put o.dst undef) (w.setRow g cs)) : wpList P ops Q (o :: rest) a w := by
  refine wpList_unit hg ?_ h
  have hr := run_storeVar_row w g t T cur cs hgc hi hs h1
  simp only [execOp, hop, hx, hy, Instr.storeAt, Instr.sureAddr, Sem.run_bind, Sem.run_pure, Result.andThen_ok, hr]
/-- make([]T, n) -/
theorem wL_make (hg : o.guard = none) (l c : Operand) (T : TypeId) (hop : o.op = .makeSlice T l c) (E : TypeId) (i : TypeInfo) (z : Value) (ht : P.underlying T = some (.slice E)) (hi : P.info? E = some i) (hz : i.zero = some z)
    (n : Nat) (hl : a.eval l = .int .i64 n) (hc : a.eval c = .int .i64 n) (hb : i.bytes * n ≤ 281474976710656) (h63 : n ≤ 9223372036854775807)
    (h : wpList P ops Q rest (a.put o.dst (.slice (some ⟨w.heap.size, 0, none⟩) n n)) (w.alloc (.cells (madeCells z.cells (n * i.size)) E))) : wpList P ops Q (o :: rest) a w := by
  refine wpList_val hg ?_ h
  have hb2 : (i.bytes : Int) * (n : Int) ≤ 281474976710656 := by
    have h1 : ((i.bytes * n : Nat) : Int) ≤ 281474976710656 := by omega
    rwa [Int.natCast_mul] at h1
  have hr := run_make (P := P) w T E i z ht hi hz .i64 .i64 n n (by omega) (Int.le_refl _) hb2 (by omega)
  simp only [Int.toNat_natCast] at hr
  simp [execOp, hop, hl, hc, hr]
theorem wpStill_val {Q : Act → Prop} (hg : o.guard = none) {v : Value} (hrun : (execOp a.eval o).run P w = .ok (.value v) w) (h : wpStill P ops w Q rest (a.put o.dst v)) : wpStill P ops w Q (o :: rest) a := by
  refine wpStill_step fun K hK => ?_
  simp only [Region.wanted, hg, if_true]
  unfold Oper.still
  rw [hrun, Oper.stillUpon_value]
  exact hK _ h
theorem wpStill_array {Q : Act → Prop} (hg : o.guard = none) (T : TypeId) (x : Operand) (hop : o.op = .sliceToArrayPointer T x) (ad : Addr) (k cap : Nat) (hx : a.eval x = .slice (some ad) k cap) (n : Nat) (e : TypeId) (hu : P.underlying T = some (.array n e)) (hn : n ≤ k)
    (h : wpStill P ops w Q rest (a.put o.dst (.pointer (some ad)))) : wpStill P ops w Q (o :: rest) a := by
  refine wpStill_val hg ?_ h
  simp [execOp, hop, hx, run_arrayAt (P := P) (w := w) T e n (some ad) k cap hu hn]
theorem wpStill_loadMid {Q : Act → Prop} (hg : o.guard = none) (T : TypeId) (x : Operand) (hop : o.op = .load T x) (b off : Nat) (hx : a.eval x = .pointer (some ⟨b, off, none⟩)) (cs : List Value) (hc : w.rangeAt b off cs)
    (n : Nat) (e : TypeId) (hu : P.underlying T = some (.array n e)) (hi : (P.info? T).map (·.size) = some cs.length)
    (h : wpStill P ops w Q rest (a.put o.dst (.agg cs.toArray))) : wpStill P ops w Q (o :: rest) a := by
  refine wpStill_val hg ?_ h
  have hr := run_loadAt_mid (P := P) w b off T cs (.array n e) hc hu rfl hi
  simp only [execOp, hop, hx, Sem.run_bind, Sem.run_pure, Result.andThen_ok, hr]
end

/-- A sector's cells. -/
def cel (s : List UInt8) : List Value := s.map fun b => .int .u8 b.toNat
theorem cel_length (s : List UInt8) : (cel s).length = s.length := by simp [cel]
theorem cel_one (s : List UInt8) : ∀ v ∈ cel s, v.oneCell' = true := by
  intro v hv
  obtain ⟨b, _, rfl⟩ := List.mem_map.1 hv
  rfl
/-- A sector as a value. -/
def secV (s : List UInt8) : Value := .agg (cel s).toArray
/-- A byte's place in a text. -/
theorem cel_get (s : List UInt8) (j : Nat) : (cel s)[j]? = s[j]?.map fun b => Value.int .u8 b.toNat := by simp [cel]
section
variable {P : Program} {ops : Array Oper} {rest : List Oper} {o : Oper} {a : Act} {w w' : World} {Q : Exit → Act → World → Prop}
theorem strOfNums_cel (s : List UInt8) : strOfNums (s.map fun b => ((b.toNat : Nat) : Int)) = ⟨s.toArray⟩ := by
  unfold strOfNums
  congr 2
  induction s with
  | nil => rfl
  | cons b s ih => simp_all
/-- string(b) -/
theorem run_toString {src e dst : TypeId} (hs : P.underlying src = some (.slice e)) (he : P.underlying e = some (.int .u8)) (hd : P.underlying dst = some .string) (b off cap : Nat) (s : List UInt8) (n : Nat) (hn : s.length = n) (hc : w.rangeAt b off (cel s)) :
    (convert src dst (.slice (some ⟨b, off, none⟩) n cap)).run P w = .ok (.string ⟨s.toArray⟩) w := by
  rw [← strOfNums_cel]
  refine run_convert_bytes_arg w src e hs he b off n cap _ (by simpa using hn) (fun i hi => ?_) dst hd
  refine hc i _ ?_
  rw [cel_get]
  have : i < s.length := by omega
  simp [this]
/-- []byte(s) -/
theorem run_toBytes {src e dst : TypeId} (hs : P.underlying src = some .string) (hd : P.underlying dst = some (.slice e)) (he : P.underlying e = some (.int .u8)) (w : World) (s : List UInt8) :
    ∃ cap w', (convert src dst (.string ⟨s.toArray⟩)).run P w = .ok (.slice (some ⟨w.heap.size, 0, none⟩) s.length cap) w' ∧ Fr [] w w' ∧ w'.heap.size = w.heap.size + 1 ∧ w'.rangeAt w.heap.size 0 (cel s) ∧ w'.there w.heap.size 0 s.length := by
  have hsz : (⟨s.toArray⟩ : ByteArray).size = s.length := by simp [ByteArray.size]
  refine ⟨_, Lib.bytesWorld w e ⟨s.toArray⟩, by rw [← hsz]; exact Lib.run_convert_string_bytes w src dst e ⟨s.toArray⟩ hs hd he, ⟨rfl, rfl, rfl, ?_, fun k hk _ => Lib.bytesWorld_at_old w e _ k hk⟩, Lib.bytesWorld_size w e _, ?_, ?_⟩
  · rw [Lib.bytesWorld_size]; omega
  · intro j v hv
    have hj : j < s.length := by have := (List.getElem?_eq_some_iff.1 hv).1; rwa [cel_length] at this
    rw [Nat.zero_add, Lib.bytesWorld_cell w e _ j (by rw [hsz]; exact hj)]
    rw [cel_get] at hv
    simpa [hj] using hv
  · intro j hj
    rw [Nat.zero_add, Lib.bytesWorld_cell w e _ j (by rw [hsz]; exact hj)]
    refine ⟨rfl, ?_⟩
    simp only [World.frozen?, Lib.bytesWorld_at_new]
    have : j < (Lib.bytesCells w e ⟨s.toArray⟩).size := by simp [Lib.bytesCells]; omega
    simp; omega
end
def zeros : List UInt8 := List.replicate 64 0
def zcells : Array Value := (cel zeros).toArray
theorem zcells_size : zcells.size = 64 := by simp [zcells, cel, zeros]
theorem zcells_one : zcells.all (·.oneCell') = true := all_oneCell_toArray (cel_one zeros)
end Go.Proofs.Ytoifpbifipgpkaa
