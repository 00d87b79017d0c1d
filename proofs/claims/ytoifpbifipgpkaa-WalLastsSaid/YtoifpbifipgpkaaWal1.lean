/-
  wal: its smallest functions.
-/
import Derived.Test.YtoifpbifipgpkaaWal0
import Derived.Lib.QuietBelow
import Derived.BigQuiet
namespace Go.Proofs.Ytoifpbifipgpkaa
open Go.RowKit Go.MapKept
/-- How many sectors a store has. -/
def roomI (n : Int) : Int := if n < 300 then 0 else n - 300
theorem room_calls (w : World) (n : Int) (hn : 0 ≤ n ∧ n ≤ 9223372036854775807) : Calls Try.prog 44 #[.int .i64 n] w fun e w' => e = .returned (.int .i64 (roomI n)) ∧ w = w' := by
  unfold roomI
  by_cases h : n < 300
  · go_enter Try.func44, Try.ntmps44
    go_wp2
    go_ret
    exact ⟨by simp [h], rfl⟩
  · have hw : wrap64 (n - 300) = n - 300 := by simp only [wrap64]; omega
    go_enter Try.func44, Try.ntmps44
    go_wp2
    go_ret
    exact ⟨by simp [h], rfl⟩
/-- A store's own cells. -/
def StoreBox (w : World) (s p u : Nat) (wv : Value) (all lasting : Int) (gone : Bool) : Prop :=
  w.heap[s]? = some (.cells #[.pointer (some ⟨p, 0, none⟩), .map (some u), wv, .int .i64 all, .int .i64 lasting, .bool gone] 88 (0, 0))
theorem ssize_calls (w : World) (s p u : Nat) (wv : Value) (all lasting : Int) (gone : Bool) (h : StoreBox w s p u wv all lasting gone) (l m n q : Nat) (b : Int) (v : Dv) (hd : DvAt w p l m n q b v) :
    Calls Try.prog 49 #[.pointer (some ⟨s, 0, none⟩)] w fun e w' => e = .returned (.int .i64 (roomI n)) ∧ w = w' := by
  have hc := box_cell h
  have hn := hd.at_.nb
  clear h
  go_enter Try.func49, Try.ntmps49
  go_wp2_with fail
  refine (size_calls w p l m n q v.c v.f v.d v.ls v.wt hd.at_).mono ?_
  rintro e w1 ⟨rfl, rfl⟩
  go_wp2_with fail
  refine (room_calls w n (by omega)).mono ?_
  rintro e w2 ⟨rfl, rfl⟩
  go_wp2_with fail
  go_ret
  exact ⟨rfl, rfl⟩
theorem shas_calls (w : World) (s p u : Nat) (wv : Value) (all lasting : Int) (gone : Bool) (h : StoreBox w s p u wv all lasting gone) (l m n q : Nat) (b : Int) (v : Dv) (hd : DvAt w p l m n q b v) (i : Int) :
    Calls Try.prog 39 #[.pointer (some ⟨s, 0, none⟩), .int .i64 i] w fun e w' => e = .returned (.bool (decide (0 ≤ i) && decide (i < roomI n))) ∧ w = w' := by
  have K := Lib.hid (ssize_calls w s p u wv all lasting gone h l m n q b v hd)
  clear h hd
  by_cases h0 : 0 ≤ i
  · go_enter Try.func39, Try.ntmps39
    go_wp2_with fail
    refine K.out.mono ?_
    rintro e w1 ⟨rfl, rfl⟩
    go_wp2_with fail
    go_ret
    exact ⟨by simp [h0], rfl⟩
  · go_enter Try.func39, Try.ntmps39
    go_wp2_with fail
    go_ret
    exact ⟨by simp; omega, rfl⟩
theorem died_calls (w : World) (s p u : Nat) (wv : Value) (all lasting : Int) (gone : Bool) (h : StoreBox w s p u wv all lasting gone) (l m n q : Nat) (b : Int) (v : Dv) (hd : DvAt w p l m n q b v) :
    Calls Try.prog 38 #[.pointer (some ⟨s, 0, none⟩)] w fun e w' => e = .returned (.bool (gone || v.d)) ∧ Fr [s] w w' ∧ StoreBox w' s p u wv all lasting (gone || v.d) := by
  have hc := box_cell h
  have hf := box_free h
  have hset := box_set h 5 (.bool (gone || v.d))
  have hset2 : StoreBox (w.setCell ⟨s, 5, none⟩ (.bool (gone || v.d))) s p u wv all lasting (gone || v.d) := by simpa [StoreBox] using hset
  have hfr : Fr [s] w (w.setCell ⟨s, 5, none⟩ (.bool (gone || v.d))) := (Fr.refl _ _).setCell (.inl (by simp)) _
  have K := Lib.hid (dead_calls w p l m n q v.c v.f v.d v.ls v.wt hd.at_)
  have HS := Lib.hid hset2; have HF := Lib.hid hfr
  generalize v.d = dd at *
  clear h hd hset hset2 hfr
  cases gone with
  | true =>
    go_enter Try.func38, Try.ntmps38
    go_wp2_with fail
    go_ret
    exact ⟨rfl, HF.out, HS.out⟩
  | false =>
    go_enter Try.func38, Try.ntmps38
    go_wp2_with fail
    refine K.out.mono ?_
    rintro e w1 ⟨rfl, rfl⟩
    go_wp2_with fail
    go_ret
    exact ⟨rfl, HF.out, HS.out⟩
section
variable {P : Program} {ops : Array Oper} {rest : List Oper} {o : Oper} {a : Act} {w : World} {Q : Exit → Act → World → Prop}
/-- A parameter that is an array, in a block of its own. -/
theorem wL_box (hg : o.guard = none) (T : TypeId) (x : Operand) (hop : o.op = .box T x) (cs : Array Value) (hx : a.eval x = .agg cs)
    (h : wpList P ops Q rest (a.put o.dst (.pointer (some ⟨w.heap.size, 0, none⟩))) (w.alloc (.cells cs T))) : wpList P ops Q (o :: rest) a w := by
  refine wpList_val hg ?_ h
  simp [execOp, hop, hx, Instr.box, newVar, newRow, Value.cells]
end
set_option maxRecDepth 100000 in
set_option maxHeartbeats 1000000 in
/-- A sector goes to the device. -/
theorem wwrite_calls (w : World) (p l m n q : Nat) (b : Int) (v : Dv) (h : DvAt w p l m n q b v) (hb : b < 9000000000000000000) (i : Nat) (hi : i < n) (s : List UInt8) (hs : s.length = 64) :
    Calls Try.prog 70 #[.pointer (some ⟨p, 0, none⟩), .int .i64 i, secV s] w fun e w' => e = .returned (.int .i64 (v.write i s).1) ∧ Fr [p, m] w w' ∧ DvAt w' p l m n q (b + 1) (v.write i s).2 := by
  have hlt := h.lts
  have hF : Fr [] w (w.alloc (.cells (cel s).toArray 82)) := (Fr.refl [] w).alloc _
  have hK := dwrite_calls (w.alloc (.cells (cel s).toArray 82)) p l m n q b v (h.keep hF (by simp) (by simp) (by simp)) hb i hi w.heap.size 0 64 s hs (rangeAt_new _ _ _ _ rfl) (by omega)
  have K := Lib.hid hK; have HF := Lib.hid hF
  obtain ⟨cs, hcs⟩ : ∃ cs, (cel s).toArray = cs := ⟨_, rfl⟩
  have hsv : secV s = .agg cs := by rw [← hcs]; rfl
  rw [hcs] at K HF
  rw [hsv]
  generalize v.write i s = r at *
  clear hK hF h hcs hsv
  go_enter Try.func70, Try.ntmps70
  go_wp2_with (first
    | ((with_reducible_and_instances refine id (α := wpList _ _ _ (⟨some 5, .box 82 (.tmp 2), _, _, _, _⟩ :: _) _ _) ?_); refine wL_box rfl 82 (.tmp 2) rfl cs rfl ?_)
    | fail)
  refine K.out.mono ?_
  rintro e w1 ⟨rfl, hf, hd⟩
  have HZ := Lib.hid ((HF.out.mono (l' := [p, m]) (by simp)).trans hf); have HD := Lib.hid hd
  clear hf hd
  go_wp2_with fail
  go_ret
  exact ⟨rfl, HZ.out, HD.out⟩
end Go.Proofs.Ytoifpbifipgpkaa
