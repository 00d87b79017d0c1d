/-
  The document's own device: New.
-/
import Derived.Test.YthjoakgcmelhmaaRef
import Derived.Deep.LoopGhost
namespace Go.Proofs.Ythjoakgcmelhmaa
open Go.RowKit Go.MapKept
theorem Try.zeroRef (w : World) : (zeroValue 52).run Try.prog w = .ok (.agg #[.slice none 0 0, .int .i64 0, .int .i64 0, .bool false]) w := by kernel_rfl
theorem Try.zeroSec (w : World) : (zeroValue 75).run Try.prog w = .ok (.agg #[.string ⟨#[]⟩, .string ⟨#[]⟩, .bool false]) w := by kernel_rfl
theorem Try.info75 : (Try.prog.info? 75).map (fun i => (i.zero, i.size, i.bytes)) = some (some (.agg #[.string ⟨#[]⟩, .string ⟨#[]⟩, .bool false]), 3, 40) := by kernel_rfl
theorem rsecs_made (w : World) (n : Nat) : RSecs (w.alloc (.cells (madeCells #[.string ⟨#[]⟩, .string ⟨#[]⟩, .bool false] (n * 3)) 75)) w.heap.size n (fun _ => []) (fun _ => []) (fun _ => false) := by
  refine ⟨_, heap_alloc_new _ _, Nat.le_of_eq (size_madeCells _ _).symm, fun i hi => ?_⟩
  have h0 : i * 3 < n * 3 := by omega
  have h1 : i * 3 + 1 < n * 3 := by omega
  have h2 : i * 3 + 2 < n * 3 := by omega
  have m1 : (i * 3 + 1) % 3 = 1 := by omega
  have m2 : (i * 3 + 2) % 3 = 2 := by omega
  simp [madeCells, Array.getElem?_map, Array.getElem?_range, h0, h1, h2, m1, m2]
set_option maxHeartbeats 400000 in
theorem rnew_arg (w : World) (n : Int) (ho : n < 0 ∨ 8192 < n) :
    Calls Try.prog 18 #[.int .i64 n] w fun e w' => e = .returned (.tuple #[.pointer none, .int .i64 1]) ∧ w = w' := by
  rcases ho with h | h
  · go_enter Try.func18, Try.ntmps18
    go_wp2
    go_ret2
    exact ⟨rfl, rfl⟩
  · have h' : ¬ n < 0 := by omega
    go_enter Try.func18, Try.ntmps18
    go_wp2
    go_ret2
    exact ⟨rfl, rfl⟩
def RNewOK (w : World) (n : Nat) (e : Ending) (w' : World) : Prop :=
  ∃ r b, e = .returned (.tuple #[.pointer (some ⟨r, 0, none⟩), .int .i64 0]) ∧ Fr [] w w' ∧ w.heap.size ≤ r ∧ w.heap.size ≤ b ∧ RefAt w' r b n n 0 (-1) false (fun _ => zeros) (fun _ => zeros) (fun _ => false)
/-- The first i are laid. -/
def laidR (i : Nat) : Nat → List UInt8 := fun j => if j < i then zeros else []
theorem laidR_step (i : Nat) : (fun j => if j = i then zeros else laidR i j) = laidR (i + 1) := by
  funext j
  unfold laidR
  by_cases e : j = i
  · simp [e]
  · by_cases l : j < i
    · have : j < i + 1 := by omega
      simp [e, l, this]
    · have : ¬ j < i + 1 := by omega
      simp [e, l, this]
set_option maxRecDepth 100000 in
set_option maxHeartbeats 400000 in
theorem rnew_ok (w : World) (n : Nat) (hn : n ≤ 8192) :
    Calls Try.prog 18 #[.int .i64 n] w (RNewOK w n) := by
  obtain ⟨i0, hi, hz0, hz1, hz2⟩ := info_parts Try.info75
  have HZ1 := Lib.hid hz1; have HZ2 := Lib.hid hz2; have HI := Lib.hid hi; have HZ0 := Lib.hid hz0; clear hz0 hz1 hz2 hi
  have hb : Hid (i0.bytes * n ≤ 281474976710656) := Lib.hid (by rw [HZ2.out]; omega)
  go_enter Try.func18, Try.ntmps18
  go_wp2_with (first
    | (refine wL_make (o := ⟨some 14, .makeSlice _ _ _, _, _, _, _⟩) rfl _ _ 50 rfl 75 i0 (.agg #[.string ⟨#[]⟩, .string ⟨#[]⟩, .bool false]) Try.underlying50 HI.out HZ0.out n rfl rfl hb.out (by omega) ?_)
    | fail)
  rw [HZ1.out]
  obtain ⟨W1, hW1⟩ : ∃ W1, W1 = w.alloc (.cells (madeCells #[.string ⟨#[]⟩, .string ⟨#[]⟩, .bool false] (n * 3)) 75) := ⟨_, rfl⟩
  have g1 : RSecs W1 w.heap.size n (fun _ => []) (fun _ => []) (fun _ => false) := by rw [hW1]; exact rsecs_made w n
  have f1 : Fr [] w W1 := by rw [hW1]; exact (Fr.refl _ _).alloc _
  have e1 : W1.heap.size = w.heap.size + 1 := by rw [hW1]; simp
  have HW1 := Lib.hid hW1
  have hst : RefAt (W1.alloc (.cells #[.slice (some ⟨w.heap.size, 0, none⟩) n n, .int .i64 0, .int .i64 (-1), .bool false] 52)) (w.heap.size + 1) w.heap.size n n 0 (-1) false (laidR 0) (laidR 0) (fun _ => false) := by
    refine ⟨?_, ?_, by omega, hn⟩
    · have := heap_alloc_new W1 (.cells #[.slice (some ⟨w.heap.size, 0, none⟩) n n, .int .i64 0, .int .i64 (-1), .bool false] 52)
      rw [e1] at this; exact this
    · have hl : laidR 0 = fun _ => [] := by funext j; simp [laidR]
      rw [hl]
      exact g1.keep (heap_alloc_old _ _ _ (by omega))
  have hfs : Fr [] w (W1.alloc (.cells #[.slice (some ⟨w.heap.size, 0, none⟩) n n, .int .i64 0, .int .i64 (-1), .bool false] 52)) := f1.alloc _
  have HST := Lib.hid hst; have HFS := Lib.hid hfs
  clear g1 f1 hst hfs
  rw [← hW1]
  clear hW1
  refine (zero_calls _).mono ?_
  rintro e w2 ⟨rfl, hf2⟩
  have hst := HST.out.keep hf2 (by simp) (by simp)
  have hfs := HFS.out.trans hf2
  have HS2 := Lib.hid hst; have HF2 := Lib.hid hfs
  clear hst hfs hf2
  go_wp2_with fail
  go_loopw [6] (fun v wr => ∃ i : Nat, i ≤ n ∧ v = .int .i64 i ∧ Fr [] w wr ∧ RefAt wr (w.heap.size + 1) w.heap.size n n 0 (-1) false (laidR i) (laidR i) (fun _ => false)) (fun v _ => n - (intOf v).toNat)
  case atStart => exact ⟨0, by omega, rfl, HF2.out, HS2.out⟩
  case round =>
    obtain ⟨i, hi, rfl, hFr, hR⟩ := hrel
    have hc := box_cell hR.box; have hsf := hR.sec.free
    by_cases hlt : i < n
    · obtain ⟨h1, h2, h3⟩ := hR.sec.cells hlt
      have HR := Lib.hid hR; have HFr := Lib.hid hFr
      clear hR hFr
      go_wp2_with fail
      have hR := HR.out
      have k1 := ((hR.sec.setL i zeros).setN i zeros).setW i false
      rw [laidR_step] at k1
      have e2 : (fun j : Nat => if j = i then false else (fun _ => false) j) = fun _ => false := by funext j; simp
      rw [e2] at k1
      have hfr : Fr [] w (((wr.setCell ⟨w.heap.size, i * 3, none⟩ (.string ⟨zeros.toArray⟩)).setCell ⟨w.heap.size, i * 3 + 1, none⟩ (.string ⟨zeros.toArray⟩)).setCell ⟨w.heap.size, i * 3 + 2, none⟩ (.bool false)) :=
        ((HFr.out.setCell (.inr (Nat.le_refl _)) _).setCell (.inr (Nat.le_refl _)) _).setCell (.inr (Nat.le_refl _)) _
      have hbox : (((wr.setCell ⟨w.heap.size, i * 3, none⟩ (.string ⟨zeros.toArray⟩)).setCell ⟨w.heap.size, i * 3 + 1, none⟩ (.string ⟨zeros.toArray⟩)).setCell ⟨w.heap.size, i * 3 + 2, none⟩ (.bool false)).heap[w.heap.size + 1]? = some (.cells #[.slice (some ⟨w.heap.size, 0, none⟩) n n, .int .i64 0, .int .i64 (-1), .bool false] 52 (0, 0)) := by
        rw [heap_set_other (by simp), heap_set_other (by simp), heap_set_other (by simp)]; exact hR.box
      have HR2 := Lib.hid (RefAt.mk hbox k1 hR.rb hR.nb)
      have HF3 := Lib.hid hfr
      clear k1 hfr hbox hR
      go_roundw
      case rel => exact ⟨i + 1, by omega, by go_num, HF3.out, HR2.out⟩
      case measure => simp [intOf]; omega
    · obtain rfl : i = n := by omega
      go_wp2_with fail
      go_ret2
      refine ⟨w.heap.size + 1, w.heap.size, rfl, hFr, by omega, Nat.le_refl _, hR.box, ?_, hR.rb, hR.nb⟩
      obtain ⟨a, k1, k2, k3⟩ := hR.sec
      refine ⟨a, k1, k2, fun j hj => ?_⟩
      have := k3 j hj
      simpa [laidR, hj] using this
end Go.Proofs.Ythjoakgcmelhmaa
