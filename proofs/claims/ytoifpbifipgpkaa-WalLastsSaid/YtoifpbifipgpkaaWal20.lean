/-
  wal: Read, where it is refused; the steps of its regions.
-/
import Derived.Test.YtoifpbifipgpkaaWal19
import Derived.Deep.RegionLaw
namespace Go.Proofs.Ytoifpbifipgpkaa
open Go.RowKit Go.MapKept Go.Shelf
attribute [local go_sem] Oper.semAt_some
section
variable {P : Program} {ops : Array Oper} {o : Oper} {a : Act} {w w' : World} {K : Act → World → Prop} {Q : Exit → Act → World → Prop} {E : Prop}
theorem step_val (hg : o.guard = none) {v : Value} (hrun : (execOp a.eval o).run P w = .ok (.value v) w') (h : K (a.put o.dst v) w') : if Region.wanted o (yielded ops a.tmps) = true then Oper.wp P o a w K Q else E := by
  rw [if_pos (by simp [Region.wanted, hg])]
  unfold Oper.wp; rw [hrun]; exact h
theorem step_unit (hg : o.guard = none) (hrun : (execOp a.eval o).run P w = .ok .skip w') (h : K (a.put o.dst undef) w') : if Region.wanted o (yielded ops a.tmps) = true then Oper.wp P o a w K Q else E := by
  rw [if_pos (by simp [Region.wanted, hg])]
  unfold Oper.wp; rw [hrun]; exact h
theorem step_lookup (hg : o.guard = none) (m x : Operand) (T : TypeId) (hop : o.op = .lookup T m x true) (Kt Et : TypeId) (hT : P.underlying T = some (.map Kt Et)) (hK : P.underlying Kt = some (.int .i64))
    (z : Value) (hz : ∀ w : World, (zeroValue Et).run P w = .ok z w) (b : Nat) (hm : a.eval m = .map (some b)) (i : Int) (hx : a.eval x = .int .i64 i) (f : Int → Option Value) (hmap : IMap w b f)
    (r : Option Value) (hr : f i = r) (h : K (a.put o.dst (.tuple #[r.getD z, .bool r.isSome])) w) : if Region.wanted o (yielded ops a.tmps) = true then Oper.wp P o a w K Q else E := by
  subst hr
  refine step_val hg (v := .tuple #[(f i).getD z, .bool (f i).isSome]) (w' := w) ?_ h
  simp [execOp, hop, hm, hx, run_lookup_i hmap hT hK (hz w)]
theorem step_allocW (hg : o.guard = none) (T : TypeId) (hop : o.op = .alloc T) (cs : Array Value) (hz : ∀ w : World, (zeroValue T).run P w = .ok (.agg cs) w)
    (h : K (a.put o.dst (.pointer (some ⟨w.heap.size, 0, none⟩))) (w.alloc (.cells cs T))) : if Region.wanted o (yielded ops a.tmps) = true then Oper.wp P o a w K Q else E := by
  refine step_val hg ?_ h
  simp [execOp, hop, Instr.alloc, hz, newVar, newRow, Value.cells]
theorem step_storeNew (hg : o.guard = none) (T : TypeId) (x y : Operand) (hop : o.op = .store T x y) (w : World) (g : Nat) (hx : a.eval x = .pointer (some ⟨g, 0, none⟩)) (hgs : g = w.heap.size) (cs : Array Value) (hy : a.eval y = .agg cs)
    (cur : Array Value) (hi : (P.info? T).map (·.size) = some cs.size) (hs : cur.size = cs.size) (h1 : cs.all (·.oneCell') = true)
    (h : K (a.put o.dst undef) (w.alloc (.cells cs T))) : if Region.wanted o (yielded ops a.tmps) = true then Oper.wp P o a (w.alloc (.cells cur T)) K Q else E := by
  subst hgs
  refine step_unit hg ?_ h
  have hr := run_storeAt_new (P := P) w T cur cs hi hs h1
  simp only [execOp, hop, hx, hy, Sem.run_bind, Sem.run_pure, Result.andThen_ok, hr]
end
/-- What lies on top of i: from the last to the first. -/
theorem overL_skip (Cs : List (Int → Option (List UInt8))) (i : Int) : ∀ x, x ≤ Cs.length → (∀ y, y < x → Cs.getD (Cs.length - 1 - y) (fun _ => none) i = none) → overL Cs i = overL (Cs.take (Cs.length - x)) i
  | 0, _, _ => by simp
  | x + 1, hx, h => by
    rw [overL_skip Cs i x (by omega) (fun y hy => h y (by omega))]
    have e : Cs.length - x = (Cs.length - (x + 1)) + 1 := by omega
    rw [e, overL_take Cs (by omega)]
    have := h x (by omega)
    rw [show Cs.length - 1 - x = Cs.length - (x + 1) by omega] at this
    unfold over
    rw [this]
    rfl
theorem overL_hit (Cs : List (Int → Option (List UInt8))) (i : Int) (x : Nat) (hx : x < Cs.length) (h : ∀ y, y < x → Cs.getD (Cs.length - 1 - y) (fun _ => none) i = none) {t : List UInt8} (ht : Cs.getD (Cs.length - 1 - x) (fun _ => none) i = some t) : overL Cs i = some t := by
  rw [overL_skip Cs i x (by omega) h]
  have e : Cs.length - x = (Cs.length - 1 - x) + 1 := by omega
  rw [e, overL_take Cs (by omega)]
  unfold over
  rw [ht]
  rfl
theorem overL_miss (Cs : List (Int → Option (List UInt8))) (i : Int) (h : ∀ y, y < Cs.length → Cs.getD (Cs.length - 1 - y) (fun _ => none) i = none) : overL Cs i = none := by
  rw [overL_skip Cs i Cs.length (Nat.le_refl _) h, Nat.sub_self]
  rfl
theorem Try.zeroB (w : World) : (zeroValue 82).run Try.prog w = .ok (.agg (cel zeros).toArray) w := Try.zeroWS2 w
/-- Where Read keeps its number and its answers. -/
structure RBoxes (w : World) (i : Int) (wa : World) : Prop where
  fr : Fr [] w wa
  bi : wa.heap[w.heap.size]? = some (.cells #[.int .i64 i] 3 (0, 0))
  b4 : wa.heap[w.heap.size + 1]? = some (.cells #[.slice none 0 0] 29 (0, 0))
  b5 : wa.heap[w.heap.size + 1 + 1]? = some (.cells #[.int .i64 0] 27 (0, 0))
theorem rboxes (w : World) (i : Int) : RBoxes w i (((w.alloc (.cells #[.int .i64 i] 3)).alloc (.cells #[.slice none 0 0] 29)).alloc (.cells #[.int .i64 0] 27)) := by
  refine ⟨(((Fr.refl [] w).alloc _).alloc _).alloc _, (((Fr.refl [] _).alloc _).alloc _).keep (heap_alloc_new w (.cells #[.int .i64 i] 3)) (by simp), ?_, ?_⟩
  · have := heap_alloc_new (w.alloc (.cells #[.int .i64 i] 3)) (.cells #[.slice none 0 0] 29)
    rw [show (w.alloc (.cells #[.int .i64 i] 3)).heap.size = w.heap.size + 1 by simp] at this
    exact ((Fr.refl [] _).alloc _).keep this (by simp)
  · have := heap_alloc_new ((w.alloc (.cells #[.int .i64 i] 3)).alloc (.cells #[.slice none 0 0] 29)) (.cells #[.int .i64 0] 27)
    rwa [show ((w.alloc (.cells #[.int .i64 i] 3)).alloc (.cells #[.slice none 0 0] 29)).heap.size = w.heap.size + 1 + 1 by simp] at this
/-- Both answers are laid. -/
structure Told (w W : World) (x : Value) (code : Int) (W' : World) : Prop where
  c4 : W'.cell? ⟨w.heap.size + 1, 0, none⟩ = some x
  c5 : W'.cell? ⟨w.heap.size + 1 + 1, 0, none⟩ = some (.int .i64 code)
  fr : Fr [w.heap.size + 1, w.heap.size + 1 + 1] W W'
theorem told_of {w W : World} {y : Value} {c : Int} (h4 : W.heap[w.heap.size + 1]? = some (.cells #[y] 29 (0, 0))) (h5 : W.heap[w.heap.size + 1 + 1]? = some (.cells #[.int .i64 c] 27 (0, 0))) (x : Value) (code : Int) :
    Told w W x code ((W.setCell ⟨w.heap.size + 1, 0, none⟩ x).setCell ⟨w.heap.size + 1 + 1, 0, none⟩ (.int .i64 code)) := by
  have hz4 := box_set h4 0 x
  have h5' : (W.setCell ⟨w.heap.size + 1, 0, none⟩ x).heap[w.heap.size + 1 + 1]? = some (.cells #[.int .i64 c] 27 (0, 0)) := ((Fr.refl [w.heap.size + 1] W).setCell (p := ⟨w.heap.size + 1, 0, none⟩) (.inl (by simp)) x).keep h5 (by simp)
  exact ⟨box_cell (((Fr.refl [w.heap.size + 1 + 1] _).setCell (p := ⟨w.heap.size + 1 + 1, 0, none⟩) (.inl (by simp)) (.int .i64 code)).keep hz4 (by simp)) 0, box_cell (box_set h5' 0 (.int .i64 code)) 0, ((Fr.refl _ _).setCell (.inl (by simp)) _).setCell (.inl (by simp)) _⟩
theorem mid5 {w W : World} {c : Int} (h5 : W.heap[w.heap.size + 1 + 1]? = some (.cells #[.int .i64 c] 27 (0, 0))) (x : Value) : (W.setCell ⟨w.heap.size + 1, 0, none⟩ x).heap[w.heap.size + 1 + 1]? = some (.cells #[.int .i64 c] 27 (0, 0)) :=
  ((Fr.refl [w.heap.size + 1] W).setCell (p := ⟨w.heap.size + 1, 0, none⟩) (.inl (by simp)) x).keep h5 (by simp)
set_option maxRecDepth 100000 in
set_option maxHeartbeats 2000000 in
theorem sread_dead (w : World) (s p u l m n q : Nat) (wv : Value) (all last : Int) (gone : Bool) (b : Int) (v : Dv) (hs : StoreBox w s p u wv all last gone) (hd : DvAt w p l m n q b v) (hv : (gone || v.d) = true) (i : Int) :
    Calls Try.prog 20 #[.pointer (some ⟨s, 0, none⟩), .int .i64 i] w fun e w' => e = .returned (.tuple #[.slice none 0 0, .int .i64 50]) ∧ Fr [s] w w' ∧ StoreBox w' s p u wv all last true := by
  obtain ⟨wa, hwa⟩ : ∃ wa, ((w.alloc (.cells #[.int .i64 i] 3)).alloc (.cells #[.slice none 0 0] 29)).alloc (.cells #[.int .i64 0] 27) = wa := ⟨_, rfl⟩
  have HWA := Lib.hid hwa
  obtain ⟨hFa, _, hr4, hr5⟩ := hwa ▸ rboxes w i
  have hls := lt_of_heap hs
  have HDIE := Lib.hid (died_calls wa s p u wv all last gone (hFa.keep hs (by simp)) l m n q b v (hd.keep hFa (by simp) (by simp) (by simp)))
  rw [hv] at HDIE
  have HR4 := Lib.hid hr4; have HR5 := Lib.hid hr5; have HFA := Lib.hid hFa
  clear hs hd hv hFa hr4 hr5 hwa
  refine (callsIn_wide (n := 6)).1 ?_
  refine callsIn_of_wp_marks Try.func20 rfl trivial ?_ rfl
  simp only [Try.ntmps20, List.size_toArray, List.length_cons, List.length_nil, Nat.reduceAdd, Nat.reduceSub, Array.replicate_succ, Array.replicate_zero, List.push_toArray, List.append_toArray, List.nil_append, List.cons_append]
  refine wpIn_wide.2 ?_
  go_wp2_with fail
  rw [HWA.out]
  go_wp2_with fail
  refine HDIE.out.mono ?_
  rintro e w1 ⟨rfl, hf1, hs1⟩
  have hb4 := hf1.keep HR4.out (by simp; omega)
  have hb5 := hf1.keep HR5.out (by simp; omega)
  have hc4 := box_cell hb4; have hf4 := box_free hb4
  have hb5' := mid5 hb5 (.slice none 0 0)
  have hc5 := box_cell hb5'; have hf5 := box_free hb5'
  obtain ⟨hz4, hz5, hone⟩ := told_of hb4 hb5 (.slice none 0 0) 50
  have HSF := Lib.hid (hone.keep hs1 (by simp; omega)); have HFF := Lib.hid (((HFA.out.mono (by simp)).trans hf1).trans_new hone (by intro x hx; simp at hx ⊢; omega))
  clear hone hb4 hb5 hb5' hs1 hf1 HDIE
  go_wp2_with fail
  refine ⟨.tuple #[.slice none 0 0, .int .i64 50], ?_, rfl, HFF.out, HSF.out⟩
  simp [results, Try.f20, go_sem, hz4, hz5]
set_option maxRecDepth 100000 in
set_option maxHeartbeats 2000000 in
theorem sread_arg (w : World) (s p u l m n q : Nat) (wv : Value) (all last : Int) (b : Int) (v : Dv) (hs : StoreBox w s p u wv all last false) (hd : DvAt w p l m n q b v) (hv : v.d = false) (hps : s ≠ p ∧ s ≠ l ∧ s ≠ m) (i : Int) (hi : (decide (0 ≤ i) && decide (i < roomI n)) = false) :
    Calls Try.prog 20 #[.pointer (some ⟨s, 0, none⟩), .int .i64 i] w fun e w' => e = .returned (.tuple #[.slice none 0 0, .int .i64 1]) ∧ Fr [s] w w' ∧ StoreBox w' s p u wv all last false := by
  obtain ⟨wa, hwa⟩ : ∃ wa, ((w.alloc (.cells #[.int .i64 i] 3)).alloc (.cells #[.slice none 0 0] 29)).alloc (.cells #[.int .i64 0] 27) = wa := ⟨_, rfl⟩
  have HWA := Lib.hid hwa
  obtain ⟨hFa, hri, hr4, hr5⟩ := hwa ▸ rboxes w i
  have hls := lt_of_heap hs
  have hda := hd.keep hFa (by simp) (by simp) (by simp)
  have HDIE := Lib.hid (died_calls wa s p u wv all last false (hFa.keep hs (by simp)) l m n q b v hda)
  rw [hv] at HDIE
  have HRI := Lib.hid hri; have HR4 := Lib.hid hr4; have HR5 := Lib.hid hr5; have HFA := Lib.hid hFa; have HD := Lib.hid hda
  clear hs hd hv hFa hri hr4 hr5 hwa hda
  refine (callsIn_wide (n := 6)).1 ?_
  refine callsIn_of_wp_marks Try.func20 rfl trivial ?_ rfl
  simp only [Try.ntmps20, List.size_toArray, List.length_cons, List.length_nil, Nat.reduceAdd, Nat.reduceSub, Array.replicate_succ, Array.replicate_zero, List.push_toArray, List.append_toArray, List.nil_append, List.cons_append]
  refine wpIn_wide.2 ?_
  go_wp2_with fail
  rw [HWA.out]
  go_wp2_with fail
  refine HDIE.out.mono ?_
  rintro e w1 ⟨rfl, hf1, hs1⟩
  have hbi := hf1.keep HRI.out (by simp; omega)
  have hb4 := hf1.keep HR4.out (by simp; omega)
  have hb5 := hf1.keep HR5.out (by simp; omega)
  have hci := box_cell hbi
  have hc4 := box_cell hb4; have hf4 := box_free hb4
  have hb5' := mid5 hb5 (.slice none 0 0)
  have hc5 := box_cell hb5'; have hf5 := box_free hb5'
  have hha := shas_calls w1 s p u wv all last false hs1 l m n q b v (HD.out.keep hf1 (by simp; omega) (by simp; omega) (by simp; omega)) i
  rw [hi] at hha
  have HHA := Lib.hid hha
  obtain ⟨hz4, hz5, hone⟩ := told_of hb4 hb5 (.slice none 0 0) 1
  have HSF := Lib.hid (hone.keep hs1 (by simp; omega)); have HFF := Lib.hid (((HFA.out.mono (by simp)).trans hf1).trans_new hone (by intro x hx; simp at hx ⊢; omega))
  clear hone hbi hb4 hb5 hb5' hs1 hf1 HDIE hha hi
  go_wp2_with fail
  refine HHA.out.mono ?_
  rintro e w2 ⟨rfl, rfl⟩
  go_wp2_with fail
  refine ⟨.tuple #[.slice none 0 0, .int .i64 1], ?_, rfl, HFF.out, HSF.out⟩
  simp [results, Try.f20, go_sem, hz4, hz5]
end Go.Proofs.Ytoifpbifipgpkaa
