/-
  A map whose keys are ints, as a plain function: which value it has at which key; what each operation on it does.
-/
import Derived.Maps.RangeWalk
import Derived.Maps.OwnSet
import Derived.WalkKit
import Derived.WalkSpells
import Derived.Deep.MidRow
namespace Go.Proofs.Ytoifpbifipgpkaa
open Go.RowKit Go.MapKept
open Go.ChangeMaps (setBlock heap_setBlock_same heap_setBlock_other)

/-- Outside the blocks of 'l' the world is as it was; nothing is gone. -/
structure Fr (l : List Nat) (w w' : World) : Prop where
  os : w'.os = w.os
  tape : w'.tape = w.tape
  output : w'.output = w.output
  size : w.heap.size ≤ w'.heap.size
  block : ∀ k, k < w.heap.size → k ∉ l → w'.heap[k]? = w.heap[k]?
theorem Fr.refl (l : List Nat) (w : World) : Fr l w w := ⟨rfl, rfl, rfl, Nat.le_refl _, fun _ _ _ => rfl⟩
theorem Fr.trans {l : List Nat} {a b c : World} (h : Fr l a b) (k : Fr l b c) : Fr l a c :=
  ⟨k.os.trans h.os, k.tape.trans h.tape, k.output.trans h.output, Nat.le_trans h.size k.size, fun i hi hn => (k.block i (Nat.lt_of_lt_of_le hi h.size) hn).trans (h.block i hi hn)⟩
theorem Fr.mono {l l' : List Nat} {w w' : World} (h : Fr l w w') (hs : ∀ x, x ∈ l → x ∈ l') : Fr l' w w' := ⟨h.os, h.tape, h.output, h.size, fun k hk hn => h.block k hk (fun hx => hn (hs k hx))⟩
/-- What is new to the first world may be written behind it. -/
theorem Fr.trans_new {l : List Nat} {a b c : World} {l' : List Nat} (h : Fr l a b) (k : Fr l' b c) (hn : ∀ x, x ∈ l' → x ∈ l ∨ a.heap.size ≤ x) : Fr l a c :=
  ⟨k.os.trans h.os, k.tape.trans h.tape, k.output.trans h.output, Nat.le_trans h.size k.size, fun i hi hx => (k.block i (Nat.lt_of_lt_of_le hi h.size) (fun hi' => by rcases hn i hi' with h1 | h1; exact hx h1; omega)).trans (h.block i hi hx)⟩
theorem Fr.drew {l : List Nat} {a w : World} (h : Fr l a w) : Fr l a w.drew := ⟨h.os, h.tape, h.output, h.size, h.block⟩
theorem Fr.alloc {l : List Nat} {a w : World} (h : Fr l a w) (o : Obj) : Fr l a (w.alloc o) :=
  h.trans ⟨rfl, rfl, rfl, by simp, fun k hk _ => Below.heap_alloc _ _ _ hk⟩
theorem Fr.setCell {l : List Nat} {a w : World} (h : Fr l a w) {p : Addr} (hp : p.block ∈ l ∨ a.heap.size ≤ p.block) (u : Value) : Fr l a (w.setCell p u) :=
  h.trans_new (l' := [p.block]) ⟨rfl, rfl, rfl, by simp [World.setCell], fun k _ hn => Below.heap_setCell _ _ _ _ (by simpa using hn)⟩ (by simpa using hp)
theorem Fr.setBlock {l : List Nat} {a w : World} (h : Fr l a w) {b : Nat} (hp : b ∈ l ∨ a.heap.size ≤ b) (o : Obj) : Fr l a (setBlock w b o) :=
  h.trans_new (l' := [b]) ⟨rfl, rfl, rfl, by simp [Go.ChangeMaps.setBlock], fun k _ hn => by
    have hn' : b ≠ k := fun e => hn (by simp [e])
    simp [Go.ChangeMaps.setBlock, hn']⟩ (by simpa using hp)
theorem setCells_eq (b : Nat) : ∀ (vs : List Value) (o : Nat) (w : World), (∀ k, k ≠ b → (w.setCells b o vs).heap[k]? = w.heap[k]?) ∧ (w.setCells b o vs).heap.size = w.heap.size ∧ (w.setCells b o vs).os = w.os ∧ (w.setCells b o vs).tape = w.tape ∧ (w.setCells b o vs).output = w.output
  | [], _, _ => ⟨fun _ _ => rfl, rfl, rfl, rfl, rfl⟩
  | v :: r, o, w => by
    obtain ⟨h1, h2, h3, h4, h5⟩ := setCells_eq b r (o + 1) (w.setCell ⟨b, o, none⟩ v)
    refine ⟨fun k hk => ?_, ?_, h3, h4, h5⟩
    · rw [World.setCells, h1 k hk]; exact Below.heap_setCell _ _ _ _ hk
    · rw [World.setCells, h2]; simp [World.setCell]
theorem Fr.setCells {l : List Nat} {a w : World} (h : Fr l a w) {b o : Nat} {vs : List Value} (hp : b ∈ l ∨ a.heap.size ≤ b) : Fr l a (w.setCells b o vs) :=
  have e := setCells_eq b vs o w
  h.trans_new (l' := [b]) ⟨e.2.2.1, e.2.2.2.1, e.2.2.2.2, by omega, fun k _ hn => e.1 k (by simpa using hn)⟩ (by simpa using hp)
theorem Fr.setRow {l : List Nat} {a w : World} (h : Fr l a w) {b : Nat} {cs : Array Value} (hp : b ∈ l ∨ a.heap.size ≤ b) : Fr l a (w.setRow b cs) :=
  h.trans_new (l' := [b]) ⟨rfl, rfl, rfl, by simp, fun k _ hn => setRow_other w b k cs (by simpa using hn)⟩ (by simpa using hp)
theorem Fr.grown {l : List Nat} {a w w' : World} {row : Option Nat} (h : Fr l a w) (hg : w.grownBy w' row) (hr : ∀ k, row = some k → k ∈ l ∨ a.heap.size ≤ k) : Fr l a w' :=
  h.trans_new (l' := row.toList) ⟨hg.os, hg.tape, hg.output, hg.size, fun k hk hn => hg.block k hk (fun e => hn (by simp [← e]))⟩ (fun x hx => hr x (by simpa using hx))
theorem Fr.below {l : List Nat} {w w' : World} (h : Fr l w w') {B : Nat} (hB : B ≤ w.heap.size) (hl : ∀ x ∈ l, B ≤ x) : Below B w w' :=
  ⟨h.os, h.tape, h.output, h.size, fun k hk => h.block k (by omega) (fun hx => by have := hl k hx; omega)⟩
theorem lt_of_heap {w : World} {b : Nat} {o : Obj} (h : w.heap[b]? = some o) : b < w.heap.size := (Array.getElem?_eq_some_iff.1 h).1
theorem Fr.keep {l : List Nat} {w w' : World} (h : Fr l w w') {b : Nat} {o : Obj} (hb : w.heap[b]? = some o) (hn : b ∉ l) : w'.heap[b]? = some o := by
  rw [h.block b (lt_of_heap hb) hn]; exact hb

theorem box_cell {w : World} {p : Nat} {vs : Array Value} {T : TypeId} {fr : Nat × Nat} (h : w.heap[p]? = some (.cells vs T fr)) (k : Nat) : w.cell? ⟨p, k, none⟩ = vs[k]? := by
  simp [World.cell?, h]
theorem box_free {w : World} {p : Nat} {vs : Array Value} {T : TypeId} (h : w.heap[p]? = some (.cells vs T (0, 0))) (k : Nat) : w.frozen? ⟨p, k, none⟩ = false := by
  simp [World.frozen?, h]
theorem box_set {w : World} {p : Nat} {vs : Array Value} {T : TypeId} {fr : Nat × Nat} (h : w.heap[p]? = some (.cells vs T fr)) (k : Nat) (v : Value) :
    (w.setCell ⟨p, k, none⟩ v).heap[p]? = some (.cells (vs.setIfInBounds k v) T fr) := by
  simp [World.setCell, Array.getElem?_modify, h]
theorem heap_set_other {w : World} {a : Addr} {v : Value} {b : Nat} (h : b ≠ a.block) : (w.setCell a v).heap[b]? = w.heap[b]? := Below.heap_setCell _ _ _ _ h
theorem heap_setB_same {w : World} {b : Nat} (h : b < w.heap.size) (o : Obj) : (setBlock w b o).heap[b]? = some o := by simp [Go.ChangeMaps.setBlock, h]
theorem heap_setB_other {w : World} {b k : Nat} (h : k ≠ b) (o : Obj) : (setBlock w b o).heap[k]? = w.heap[k]? := by simp [Go.ChangeMaps.setBlock, Ne.symm h]

/-- The number in a key. -/
def kI : Value → Int | .int _ n => n | _ => 0
def isI (v : Value) : Prop := v = .int .i64 (kI v)
theorem isI_iff {v : Value} : IsKey (.int .i64) v ↔ isI v := by
  cases v <;> simp [IsKey, isI, kI, eq_comm]
theorem kI_inj {a b : Value} (ha : isI a) (hb : isI b) (h : kI a = kI b) : a = b := by rw [ha, hb, h]
/-- The entries hold just what 'f' says. -/
structure Holds (es : Array MapEntry) (clk : Nat) (f : Int → Option Value) : Prop where
  st : Stamped es clk
  key : ∀ x ∈ es.toList, isI x.key
  to : ∀ x ∈ es.toList, f (kI x.key) = some x.val
  from_ : ∀ i v, f i = some v → ∃ x ∈ es.toList, kI x.key = i ∧ x.val = v
/-- Block b is a map from ints that holds just what 'f' says. -/
def IMap (w : World) (b : Nat) (f : Int → Option Value) : Prop := ∃ es clk, w.heap[b]? = some (.map es clk) ∧ Holds es clk f
theorem IMap.lt {w : World} {b : Nat} {f : Int → Option Value} (h : IMap w b f) : b < w.heap.size := by obtain ⟨_, _, h, _⟩ := h; exact lt_of_heap h
theorem IMap.keep {w w' : World} {b : Nat} {f : Int → Option Value} (h : IMap w b f) (hb : w'.heap[b]? = w.heap[b]?) : IMap w' b f := by
  obtain ⟨es, clk, h1, h2⟩ := h
  exact ⟨es, clk, by rw [hb, h1], h2⟩
theorem Holds.empty (clk : Nat) : Holds #[] clk (fun _ => none) := ⟨stamped_empty clk, by simp, by simp, by simp⟩
theorem Holds.find {es : Array MapEntry} {clk : Nat} {f : Int → Option Value} (h : Holds es clk f) (i : Int) :
    (Instr.findNow (.int .i64) (.int .i64 i) es.toList 0 = some none ∧ f i = none) ∨
    ∃ j e, Instr.findNow (.int .i64) (.int .i64 i) es.toList 0 = some (some (j, e.val)) ∧ es[j]? = some e ∧ e.key = .int .i64 i ∧ f i = some e.val := by
  rcases findNow_spec (d := .int .i64) (k := .int .i64 i) rfl es.toList 0 (fun x hx => isI_iff.2 (h.key x hx)) with ⟨h1, h2⟩ | ⟨j, e, h1, h2, h3⟩
  · left
    refine ⟨h1, ?_⟩
    cases hf : f i with
    | none => rfl
    | some v =>
      obtain ⟨x, hx, hk, _⟩ := h.from_ i v hf
      exact absurd (by rw [h.key x hx, hk]) (h2 x hx)
  · right
    have hm : e ∈ es.toList := List.mem_of_getElem? h2
    refine ⟨j, e, by simpa using h1, by simpa using h2, h3, ?_⟩
    have := h.to e hm
    rwa [h3] at this

variable {P : Program}
/-- v, ok := m[i] -/
theorem run_lookup_i {w : World} {b : Nat} {f : Int → Option Value} (hm : IMap w b f) {T K E : TypeId} (hT : P.underlying T = some (.map K E)) (hK : P.underlying K = some (.int .i64))
    {z : Value} (hz : (zeroValue E).run P w = .ok z w) (i : Int) :
    (Instr.lookup T (.map (some b)) (.int .i64 i) true).run P w = .ok (.tuple #[(f i).getD z, .bool (f i).isSome]) w := by
  obtain ⟨es, clk, hb, hh⟩ := hm
  have hck : ∀ e, (Instr.checkKey e 10000 K (.int .i64 i)).run P w = .ok () w := fun e => run_checkKey hK (by rfl) e 9999
  rcases hh.find i with ⟨h1, h2⟩ | ⟨j, e, h1, _, _, h4⟩
  · simp [Instr.lookup, run_underlying hT, MapKept.run_getObj_map hb, hck, run_findKey hK h1, hz, h2]
  · simp [Instr.lookup, run_underlying hT, MapKept.run_getObj_map hb, hck, run_findKey hK h1, h4]
/-- v := m[i] -/
theorem run_lookup1_i {w : World} {b : Nat} {f : Int → Option Value} (hm : IMap w b f) {T K E : TypeId} (hT : P.underlying T = some (.map K E)) (hK : P.underlying K = some (.int .i64))
    {z : Value} (hz : (zeroValue E).run P w = .ok z w) (i : Int) :
    (Instr.lookup T (.map (some b)) (.int .i64 i) false).run P w = .ok ((f i).getD z) w := by
  obtain ⟨es, clk, hb, hh⟩ := hm
  have hck : ∀ e, (Instr.checkKey e 10000 K (.int .i64 i)).run P w = .ok () w := fun e => run_checkKey hK (by rfl) e 9999
  rcases hh.find i with ⟨h1, h2⟩ | ⟨j, e, h1, _, _, h4⟩
  · simp [Instr.lookup, run_underlying hT, MapKept.run_getObj_map hb, hck, run_findKey hK h1, hz, h2]
  · simp [Instr.lookup, run_underlying hT, MapKept.run_getObj_map hb, hck, run_findKey hK h1, h4]

theorem Holds.push {es : Array MapEntry} {clk : Nat} {f : Int → Option Value} (h : Holds es clk f) {i : Int} (hi : f i = none) (v : Value) :
    Holds (es.push { key := .int .i64 i, val := v, born := clk }) (clk + 1) (fun j => if j = i then some v else f j) := by
  have hk : ∀ x ∈ es.toList, kI x.key ≠ i := fun x hx e => by have := h.to x hx; rw [e, hi] at this; cases this
  refine ⟨stamped_push h.st (fun x hx e => hk x hx (by rw [e]; rfl)), ?_, ?_, ?_⟩
  · intro x hx
    simp only [Array.toList_push, List.mem_append, List.mem_singleton] at hx
    rcases hx with hx | rfl
    · exact h.key x hx
    · rfl
  · intro x hx
    simp only [Array.toList_push, List.mem_append, List.mem_singleton] at hx
    rcases hx with hx | rfl
    · rw [if_neg (hk x hx)]; exact h.to x hx
    · simp [kI]
  · intro j u hj
    by_cases e : j = i
    · subst e
      simp at hj; subst hj
      exact ⟨{ key := .int .i64 j, val := v, born := clk }, by simp, rfl, rfl⟩
    · simp only [if_neg e] at hj
      obtain ⟨x, hx, h1, h2⟩ := h.from_ j u hj
      exact ⟨x, by simp [Array.toList_push, hx], h1, h2⟩
theorem mem_modify {es : Array MapEntry} {j : Nat} {g : MapEntry → MapEntry} {x : MapEntry} (hx : x ∈ (es.modify j g).toList) : ∃ k y, es[k]? = some y ∧ ((k = j ∧ x = g y) ∨ (k ≠ j ∧ x = y)) := by
  obtain ⟨k, hk⟩ := List.mem_iff_getElem?.1 hx
  simp only [Array.getElem?_toList, Array.getElem?_modify] at hk
  by_cases e : j = k
  · subst e
    simp only [if_true, Option.map_eq_some_iff] at hk
    obtain ⟨y, hy, rfl⟩ := hk
    exact ⟨j, y, hy, .inl ⟨rfl, rfl⟩⟩
  · simp only [if_neg e] at hk
    exact ⟨k, x, hk, .inr ⟨fun q => e q.symm, rfl⟩⟩
theorem modify_mem {es : Array MapEntry} {j k : Nat} {g : MapEntry → MapEntry} {y : MapEntry} (hy : es[k]? = some y) : (if k = j then g y else y) ∈ (es.modify j g).toList := by
  refine List.mem_iff_getElem?.2 ⟨k, ?_⟩
  simp only [Array.getElem?_toList, Array.getElem?_modify]
  by_cases e : k = j
  · subst e; simp [hy]
  · have e' : ¬ j = k := fun q => e q.symm
    simp only [if_neg e, if_neg e']; exact hy
theorem key_idx {es : Array MapEntry} {clk : Nat} (h : Stamped es clk) {a b : Nat} {x y : MapEntry} (hx : es[a]? = some x) (hy : es[b]? = some y) (hk : x.key = y.key) : a = b := by
  have h3 := h.2.2
  have hla : a < es.size := (Array.getElem?_eq_some_iff.1 hx).1
  have hlb : b < es.size := (Array.getElem?_eq_some_iff.1 hy).1
  have ea := (Array.getElem?_eq_some_iff.1 hx).2
  have eb := (Array.getElem?_eq_some_iff.1 hy).2
  have hp := List.pairwise_iff_getElem.1 h3
  rcases Nat.lt_trichotomy a b with h | h | h
  · exact (hp a b (by simpa using hla) (by simpa using hlb) h (by simp [ea, eb, hk])).elim
  · exact h
  · exact (hp b a (by simpa using hlb) (by simpa using hla) h (by simp [ea, eb, hk])).elim
theorem Holds.modify {es : Array MapEntry} {clk : Nat} {f : Int → Option Value} (h : Holds es clk f) {i : Int} {j : Nat} {e : MapEntry} (hj : es[j]? = some e) (hk : e.key = .int .i64 i) (v : Value) :
    Holds (es.modify j fun x => { x with key := .int .i64 i, val := v }) clk (fun q => if q = i then some v else f q) := by
  refine ⟨stamped_modify h.st j _ (fun _ _ => rfl) (fun x _ hx => by rw [hj] at hx; cases hx; exact hk.symm), ?_, ?_, ?_⟩
  · intro x hx
    obtain ⟨k, y, hy, ⟨_, rfl⟩ | ⟨_, rfl⟩⟩ := mem_modify hx
    · rfl
    · exact h.key _ (List.mem_of_getElem? (by simpa using hy))
  · intro x hx
    obtain ⟨k, y, hy, ⟨rfl, rfl⟩ | ⟨hne, rfl⟩⟩ := mem_modify hx
    · simp [kI]
    · have hm : x ∈ es.toList := List.mem_of_getElem? (by simpa using hy)
      have : kI x.key ≠ i := fun q => hne (key_idx h.st hy hj (by rw [hk, h.key x hm, q]))
      rw [if_neg this]; exact h.to x hm
  · intro q u hq
    by_cases eq : q = i
    · subst eq
      simp at hq; subst hq
      have := modify_mem (j := j) (g := fun x => { x with key := .int .i64 q, val := v }) hj
      rw [if_pos rfl] at this
      exact ⟨_, this, rfl, rfl⟩
    · simp only [if_neg eq] at hq
      obtain ⟨x, hx, h1, h2⟩ := h.from_ q u hq
      obtain ⟨k, hk'⟩ := List.mem_iff_getElem?.1 hx
      have hk'' : es[k]? = some x := by simpa using hk'
      have hne : k ≠ j := fun e' => by
        subst e'
        rw [hk''] at hj; cases hj
        rw [hk] at h1; simp [kI] at h1; exact eq h1.symm
      have := modify_mem (j := j) (g := fun x => { x with key := .int .i64 i, val := v }) hk''
      rw [if_neg hne] at this
      exact ⟨x, this, h1, h2⟩
/-- m[i] = v -/
theorem run_mapUpdate_i {w : World} {b : Nat} {f : Int → Option Value} (hm : IMap w b f) {T K E : TypeId} (hT : P.underlying T = some (.map K E)) (hK : P.underlying K = some (.int .i64)) (i : Int) (v : Value) :
    ∃ es clk, (Instr.mapUpdate T (.map (some b)) (.int .i64 i) v).run P w = .ok () (setBlock w b (.map es clk)) ∧ Holds es clk (fun j => if j = i then some v else f j) := by
  obtain ⟨es, clk, hb, hh⟩ := hm
  have hck : ∀ e, (Instr.checkKey e 10000 K (.int .i64 i)).run P w = .ok () w := fun e => run_checkKey hK (by rfl) e 9999
  rcases hh.find i with ⟨h1, h2⟩ | ⟨j, e, h1, h2, h3, h4⟩
  · exact ⟨_, _, by simp [Instr.mapUpdate, run_underlying hT, MapKept.run_getObj_map hb, hck, run_findKey hK h1, MapKept.run_setObj_map _ hb]; rfl, hh.push h2 v⟩
  · refine ⟨_, _, ?_, hh.modify h2 h3 v⟩
    have hst : (Instr.keyThatStays (.int .i64 i) (.int .i64 i)).run P w = .ok (.int .i64 i) w := by simp [Instr.keyThatStays, Instr.sameBits]
    simp [Instr.mapUpdate, run_underlying hT, MapKept.run_getObj_map hb, hck, run_findKey hK h1, h2, h3, hst, MapKept.run_setObj_map _ hb]
    rfl
theorem Holds.erase {es : Array MapEntry} {clk : Nat} {f : Int → Option Value} (h : Holds es clk f) {i : Int} {j : Nat} {e : MapEntry} (hj : es[j]? = some e) (hk : e.key = .int .i64 i) :
    Holds (es.eraseIdxIfInBounds j) clk (fun q => if q = i then none else f q) := by
  have hlt : j < es.size := (Array.getElem?_eq_some_iff.1 hj).1
  have hl : (es.eraseIdxIfInBounds j).toList = es.toList.eraseIdx j := by simp [Array.eraseIdxIfInBounds, hlt]
  have hsub : ∀ x, x ∈ (es.eraseIdxIfInBounds j).toList → ∃ k, k ≠ j ∧ es[k]? = some x := fun x hx => by
    rw [hl, List.mem_eraseIdx_iff_getElem?] at hx
    obtain ⟨k, hne, hk⟩ := hx
    exact ⟨k, hne, by simpa using hk⟩
  refine ⟨stamped_erase h.st j, fun x hx => ?_, fun x hx => ?_, fun q v hq => ?_⟩
  · obtain ⟨k, _, hk'⟩ := hsub x hx
    exact h.key x (List.mem_of_getElem? (by simpa using hk'))
  · obtain ⟨k, hne, hk'⟩ := hsub x hx
    have hm : x ∈ es.toList := List.mem_of_getElem? (by simpa using hk')
    have : kI x.key ≠ i := fun q => hne (key_idx h.st hk' hj (by rw [hk, h.key x hm, q]))
    rw [if_neg this]; exact h.to x hm
  · by_cases eq : q = i
    · simp [eq] at hq
    · simp only [if_neg eq] at hq
      obtain ⟨x, hx, h1, h2⟩ := h.from_ q v hq
      obtain ⟨k, hk'⟩ := List.mem_iff_getElem?.1 hx
      have hne : k ≠ j := fun e' => by
        subst e'
        rw [Array.getElem?_toList, hj] at hk'; cases hk'
        rw [hk] at h1; simp [kI] at h1; exact eq h1.symm
      exact ⟨x, by rw [hl, List.mem_eraseIdx_iff_getElem?]; exact ⟨k, hne, hk'⟩, h1, h2⟩
/-- delete(m, i) -/
theorem run_delete_i {w : World} {b : Nat} {f : Int → Option Value} (hm : IMap w b f) {T K E K' : TypeId} {ty : TypeId} (hT : P.underlying T = some (.map K E)) (hK : P.underlying K = some (.int .i64)) (i : Int) :
    ∃ es clk, (Builtin.delete_ #[T, K'] ty #[.map (some b), .int .i64 i]).run P w = .ok (.tuple #[]) (setBlock w b (.map es clk)) ∧ Holds es clk (fun j => if j = i then none else f j) := by
  obtain ⟨es, clk, hb, hh⟩ := hm
  have hck : ∀ e, (Instr.checkKey e 10000 K (.int .i64 i)).run P w = .ok () w := fun e => run_checkKey hK (by rfl) e 9999
  rcases hh.find i with ⟨h1, h2⟩ | ⟨j, e, h1, h2, h3, h4⟩
  · refine ⟨es, clk, ?_, ?_⟩
    · simp [Builtin.delete_, run_underlying hT, MapKept.run_getObj_map hb, hck, run_findKey hK h1, MapKept.run_setObj_map _ hb]
      rfl
    · have : (fun j => if j = i then none else f j) = f := by funext j; split; (rename_i e; rw [e, h2]); rfl
      rw [this]; exact hh
  · refine ⟨_, _, ?_, hh.erase h2 h3⟩
    simp [Builtin.delete_, run_underlying hT, MapKept.run_getObj_map hb, hck, run_findKey hK h1, MapKept.run_setObj_map _ hb]
    rfl
/-- clear(m) -/
theorem run_clear_i {w : World} {b : Nat} {f : Int → Option Value} (hm : IMap w b f) {T K E : TypeId} {ty : TypeId} (hT : P.underlying T = some (.map K E)) :
    ∃ es clk, (Builtin.clear_ #[T] ty #[.map (some b)]).run P w = .ok (.tuple #[]) (setBlock w b (.map es clk)) ∧ Holds es clk (fun _ => none) := by
  obtain ⟨es, clk, hb, hh⟩ := hm
  refine ⟨#[], clk, ?_, Holds.empty clk⟩
  simp [Builtin.clear_, run_underlying hT, MapKept.run_getObj_map hb, MapKept.run_setObj_map _ hb]
  rfl
end Go.Proofs.Ytoifpbifipgpkaa
