/-
  New, and the bytes of a kind.
-/
import Derived.Test.YtoifpbifipgpkaaDev
namespace Go.Proofs.Ytoifpbifipgpkaa
open Go.RowKit Go.MapKept
set_option maxRecDepth 100000 in
set_option maxHeartbeats 400000 in
theorem new_arg (w : World) (n : Int) (_hn : -9223372036854775808 ≤ n ∧ n ≤ 9223372036854775807) (ho : n < 0 ∨ 8192 < n) :
    Calls Try.prog 24 #[.int .i64 n] w fun e w' => e = .returned (.tuple #[.pointer none, .int .i64 1]) ∧ w = w' := by
  rcases ho with h | h
  · go_enter Try.func24, Try.ntmps24
    go_wp2
    go_ret2
    exact ⟨rfl, rfl⟩
  · have h' : ¬ n < 0 := by omega
    go_enter Try.func24, Try.ntmps24
    go_wp2
    go_ret2
    exact ⟨rfl, rfl⟩
/-- A new device. -/
def NewOK (w : World) (n : Nat) (e : Ending) (w' : World) : Prop :=
  ∃ p l m, e = .returned (.tuple #[.pointer (some ⟨p, 0, none⟩), .int .i64 0]) ∧ Fr [] w w' ∧ w.heap.size ≤ p ∧ w.heap.size ≤ l ∧ w.heap.size ≤ m ∧ DevAt w' p l m n n 0 (-1) false (fun _ => zeros) (fun _ => none)
theorem Try.zeroDev (w : World) : (zeroValue 95).run Try.prog w = .ok (.agg #[.slice none 0 0, .map none, .int .i64 0, .int .i64 0, .bool false]) w := by kernel_rfl
theorem Try.info65 : (Try.prog.info? 91).map (fun i => (i.zero, i.size, i.bytes)) = some (some (.agg zcells), 64, 64) := by kernel_rfl
theorem secs_made (w : World) (n : Nat) : Secs (w.alloc (.cells (madeCells zcells (n * 64)) 91)) w.heap.size n (fun _ => zeros) := by
  refine ⟨_, heap_alloc_new _ _, Nat.le_of_eq (size_madeCells _ _).symm, fun i hi => ⟨by simp [zeros], fun j hj => ?_⟩⟩
  have h1 : i * 64 + j < n * 64 := by omega
  have h2 : (i * 64 + j) % 64 = j := by omega
  simp only [madeCells, Array.getElem?_map, Array.getElem?_range, h1, if_true, Option.map_some, zcells_size, h2]
  have h3 : j < zcells.size := by rw [zcells_size]; exact hj
  rw [getElem!_pos zcells j h3]
  simp [zcells]
set_option maxRecDepth 100000 in
set_option maxHeartbeats 400000 in
theorem new_ok (w : World) (n : Nat) (hn : n ≤ 8192) :
    Calls Try.prog 24 #[.int .i64 n] w (NewOK w n) := by
  have hmm := @run_makeMap Try.prog
  obtain ⟨i0, hi, hz0, hz1, hz2⟩ := info_parts Try.info65
  have HZ1 := Lib.hid hz1; have HZ2 := Lib.hid hz2; have HI := Lib.hid hi; have HZ0 := Lib.hid hz0; clear hz0 hz1 hz2 hi
  have hb : Hid (i0.bytes * n ≤ 281474976710656) := Lib.hid (by rw [HZ2.out]; omega)
  go_enter Try.func24, Try.ntmps24
  go_wp2_with (first
    | (refine wL_make (o := ⟨some 11, .makeSlice _ _ _, _, _, _, _⟩) rfl _ _ 93 rfl 91 i0 (.agg zcells) Try.underlying93 HI.out HZ0.out n rfl rfl hb.out (by omega) ?_)
    | fail)
  go_ret2
  rw [HZ1.out]
  have e1 : (w.alloc (.cells (madeCells zcells (n * 64)) 91)).heap.size = w.heap.size + 1 := by simp
  have e2 : ((w.alloc (.cells (madeCells zcells (n * 64)) 91)).alloc (.map #[] 0)).heap.size = w.heap.size + 2 := by simp
  generalize hW1 : w.alloc (.cells (madeCells zcells (n * 64)) 91) = W1 at e1 e2
  have g1 : Secs W1 w.heap.size n (fun _ => zeros) := by rw [← hW1]; exact secs_made w n
  have f1 : Fr [] w W1 := by rw [← hW1]; exact (Fr.refl _ _).alloc _
  refine ⟨w.heap.size + 2, w.heap.size, w.heap.size + 1, rfl, (f1.alloc _).alloc _, by omega, Nat.le_refl _, by omega, ?_⟩
  refine ⟨?_, (g1.keep (w' := W1.alloc (.map #[] 0)) (heap_alloc_old _ _ _ (by omega))).keep (heap_alloc_old _ _ _ (by omega)), ⟨#[], 0, ?_, Holds.empty 0⟩, by simp, by omega, hn⟩
  · have := heap_alloc_new (W1.alloc (.map #[] 0)) (.cells #[.slice (some ⟨w.heap.size, 0, none⟩) n n, .map (some (w.heap.size + 1)), .int .i64 0, .int .i64 (-1), .bool false] 95)
    rw [e2] at this
    exact this
  · rw [heap_alloc_old _ _ _ (by omega)]
    have := heap_alloc_new W1 (.map #[] 0)
    rw [e1] at this
    exact this
/-- n bytes of a kind. -/
def bys (k n : Nat) : List UInt8 := (List.range n).map fun i => UInt8.ofNat (k * 7 + i)
theorem bys_length (k n : Nat) : (bys k n).length = n := by simp [bys]
/-- The first i of them are laid. -/
def fillB (k n i : Nat) : Array Value := ((List.range n).map fun j => if j < i then Value.int .u8 (UInt8.ofNat (k * 7 + j)).toNat else .int .u8 0).toArray
theorem fillB_size (k n i : Nat) : (fillB k n i).size = n := by simp [fillB]
theorem fillB_zero (k n : Nat) : madeCells #[.int .u8 0] n = fillB k n 0 := by
  apply Array.ext_getElem?
  intro j
  by_cases hj : j < n
  · simp [madeCells, fillB, hj, Nat.mod_one]
  · simp [madeCells, fillB, hj]
theorem fillB_step (k n i : Nat) (hi : i < n) : (fillB k n i).setIfInBounds i (.int .u8 (UInt8.ofNat (k * 7 + i)).toNat) = fillB k n (i + 1) := by
  apply Array.ext_getElem?
  intro j
  by_cases hj : j < n
  · by_cases e : i = j
    · subst e; simp [fillB, hi, Array.getElem?_setIfInBounds]
    · have : (j < i + 1) = (j < i) := by apply propext; omega
      simp [fillB, hj, e, Array.getElem?_setIfInBounds, this]
  · have e : i ≠ j := by omega
    simp [fillB, hj, e, Array.getElem?_setIfInBounds]
theorem fillB_all (k n : Nat) : fillB k n n = (cel (bys k n)).toArray := by
  unfold fillB cel bys
  congr 1
  rw [List.map_map]
  apply List.map_congr_left
  intro j hj
  simp only [List.mem_range] at hj
  simp [hj]
set_option maxRecDepth 100000 in
set_option maxHeartbeats 400000 in
theorem bytes_calls (w : World) (k n : Nat) (hn : n ≤ 8192) (hk : k ≤ 100000) :
    Calls Try.prog 40 #[.int .i64 k, .int .i64 n] w fun e w' => e = .returned (.string ⟨(bys k n).toArray⟩) ∧ Fr [] w w' := by
  obtain ⟨i0, hi, hz0, hz1, hz2⟩ := info_parts Try.info5
  have HZ1 := Lib.hid hz1; have HZ2 := Lib.hid hz2; have HI := Lib.hid hi; have HZ0 := Lib.hid hz0; clear hz0 hz1 hz2 hi
  have hb : Hid (i0.bytes * n ≤ 281474976710656) := Lib.hid (by rw [HZ2.out]; omega)
  go_enter Try.func40, Try.ntmps40
  go_wp2_with (first
    | (refine wL_make (o := ⟨some 8, .makeSlice _ _ _, _, _, _, _⟩) rfl _ _ 29 rfl 5 i0 (.int .u8 0) Try.underlying29 HI.out HZ0.out n rfl rfl hb.out (by omega) ?_)
    | fail)
  rw [HZ1.out, Nat.mul_one]
  rw [fillB_zero k n]
  go_loopw [6] (fun v wr => ∃ i : Nat, i ≤ n ∧ v = .int .i64 i ∧ wr = w.alloc (.cells (fillB k n i) 5)) (fun v _ => n - (intOf v).toNat)
  case atStart => exact ⟨0, Nat.zero_le _, rfl, rfl⟩
  case round =>
    obtain ⟨i, hi, rfl, rfl⟩ := hrel
    by_cases hlt : i < n
    · have hget : (fillB k n i)[i]? = some (.int .u8 0) := by simp [fillB, hlt]
      have hval : (((UInt8.ofNat (k * 7 + i)).toNat : Nat) : Int) = ((k : Int) * 7 + (i : Int)) % 256 := by
        simp
      have HV := Lib.hid hval; clear hval
      go_wp2_with fail
      go_roundw
      case rel => exact ⟨i + 1, by omega, by go_num, by rw [← HV.out, fillB_step k n i hlt]⟩
      case measure => simp [intOf]; omega
    · obtain rfl : i = n := by omega
      have hs : (convert 29 9 (.slice (some ⟨w.heap.size, 0, none⟩) i i)).run Try.prog (w.alloc (.cells (fillB k i i) 5)) = .ok (.string ⟨(bys k i).toArray⟩) (w.alloc (.cells (fillB k i i) 5)) :=
        run_toString Try.underlying29 Try.underlying5 Try.underlying9 w.heap.size 0 i (bys k i) i (bys_length k i) (by rw [fillB_all]; exact rangeAt_new _ _ _ _ rfl)
      go_wp2_with fail
      go_ret
      exact ⟨rfl, (Fr.refl _ _).alloc _⟩
end Go.Proofs.Ytoifpbifipgpkaa
