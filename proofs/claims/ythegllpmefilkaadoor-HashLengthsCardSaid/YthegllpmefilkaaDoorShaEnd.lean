/-
  The last blocks of a text: what is left of it, the byte 128, noughts, the length.
-/
import Derived.Test.YthegllpmefilkaaDoorShaAll
import Derived.Laws.CopyOwn
import Derived.Laws.OwnMore
namespace Go.Proofs.YthegllpmefilkaaDoor
open Go.RowKit Go.MapKept
theorem byteI_toNat (x : Int) : ((byteI x).toNat : Int) = x % 256 := by
  unfold byteI
  rw [UInt8.toNat_ofNat']
  omega
/-- The last blocks, of whose length the last k bytes stand. -/
def endL (r : List UInt8) (size N k : Nat) : List UInt8 :=
  (List.range size).map fun j => if j < r.length then r.getD j 0 else if j = r.length then 128 else if size - k ≤ j then byteI (((N : Int) * 8) / 2 ^ (8 * (size - 1 - j))) else 0
theorem endL_length (r : List UInt8) (size N k : Nat) : (endL r size N k).length = size := by simp [endL]
theorem endL_get (r : List UInt8) (size N k j : Nat) (h : j < size) : (endL r size N k)[j]? = some (if j < r.length then r.getD j 0 else if j = r.length then 128 else if size - k ≤ j then byteI (((N : Int) * 8) / 2 ^ (8 * (size - 1 - j))) else 0) := by
  simp [endL, h]
theorem endL_set (r : List UInt8) (size N k : Nat) (hk : k < 8) (hs : r.length + 9 ≤ size) : (endL r size N k).set (size - 1 - k) (byteI (((N : Int) * 8) / 2 ^ (8 * k))) = endL r size N (k + 1) := by
  apply List.ext_getElem?
  intro j
  rw [List.getElem?_set, endL_length]
  by_cases hj : j < size
  · rw [endL_get _ _ _ _ _ hj]
    by_cases e : size - 1 - k = j
    · rw [if_pos e, if_pos (by omega), endL_get _ _ _ _ _ hj, if_neg (by omega), if_neg (by omega), if_pos (by omega), show size - 1 - j = k by omega]
    · rw [if_neg e, endL_get _ _ _ _ _ hj]
      have : (size - (k + 1) ≤ j) = (size - k ≤ j) := by simp only [eq_iff_iff]; omega
      simp only [this]
  · have h1 : ∀ k, (endL r size N k)[j]? = none := fun k => List.getElem?_eq_none (by rw [endL_length]; omega)
    rw [h1, h1]
    split
    · rw [if_neg (by omega)]
    · rfl
theorem endL_zero (r : List UInt8) (size N : Nat) (hs : r.length + 9 ≤ size) : (splice (List.replicate size 0) 0 r).set r.length 128 = endL r size N 0 := by
  have hl : (splice (List.replicate size (0 : UInt8)) 0 r).length = size := by rw [length_splice _ _ _ (by simp; omega)]; simp
  apply List.ext_getElem?
  intro j
  rw [List.getElem?_set, hl]
  by_cases hj : j < size
  · rw [endL_get _ _ _ _ _ hj]
    by_cases e : r.length = j
    · rw [if_pos e, if_pos (by omega), if_neg (by omega), if_pos e.symm]
    · rw [if_neg e]
      by_cases h2 : j < r.length
      · rw [if_pos h2]
        simp [splice, List.getElem?_append, h2]
      · rw [if_neg h2, if_neg (fun h => e h.symm), if_neg (by omega)]
        simp only [splice, List.take_zero, List.nil_append, Nat.zero_add]
        rw [List.getElem?_append_right (by omega), List.getElem?_drop, List.getElem?_replicate, if_pos (by omega)]
  · have h1 : (endL r size N 0)[j]? = none := List.getElem?_eq_none (by rw [endL_length]; omega)
    have h2 : (splice (List.replicate size (0 : UInt8)) 0 r)[j]? = none := List.getElem?_eq_none (by omega)
    rw [h1, h2, if_neg (by omega)]
theorem cel_set (l : List UInt8) (i : Nat) (b : UInt8) : (cel l).toArray.setIfInBounds i (.int .u8 b.toNat) = (cel (l.set i b)).toArray := by
  apply Array.ext_getElem?
  intro j
  simp only [Array.getElem?_setIfInBounds, List.getElem?_toArray, List.size_toArray, cel_get, cel_length, List.getElem?_set]
  split <;> rename_i h
  · subst h
    split <;> simp_all
  · rfl
theorem cel_splice (l c : List UInt8) (i : Nat) : splice (cel l) i (cel c) = cel (splice l i c) := by
  simp [splice, cel, List.map_take, List.map_drop]
theorem cel_rep (n : Nat) : cel (List.replicate n 0) = List.replicate n (.int .u8 0) := by simp [cel]
/-- What stands in memory while the last blocks are written. -/
structure EndAt (w wr : World) (l : List UInt8) : Prop where
  fr : Fr [] w wr
  row : wr.heap[w.heap.size]? = some (.cells (cel l).toArray 5 (0, 0))
theorem EndAt.next {w wr : World} {l : List UInt8} (h : EndAt w wr l) (i : Nat) (b : UInt8) : EndAt w (wr.setCell ⟨w.heap.size, i, none⟩ (.int .u8 b.toNat)) (l.set i b) :=
  ⟨h.fr.setCell (.inr (Nat.le_refl _)) _, by rw [box_set h.row, cel_set]⟩
theorem EndAt.cell {w wr : World} {l : List UInt8} (h : EndAt w wr l) {i : Nat} (hi : i < l.length) : wr.cell? ⟨w.heap.size, i, none⟩ = some (.int .u8 (l.getD i 0).toNat) := by
  rw [box_cell h.row, List.getElem?_toArray, cel_get]; simp [hi]
theorem Tryd.info5 : (Tryd.prog.info? 5).map (fun i => (i.zero, i.size, i.bytes)) = some (some (.int .u8 0), 1, 1) := by kernel_rfl
theorem Tryd.size5 : (Tryd.prog.info? 5).map (·.size) = some 1 := by kernel_rfl
/-- The last blocks as they come back. -/
def EndOK (w : World) (r : List UInt8) (size N : Nat) (e : Ending) (w' : World) : Prop :=
  e = .returned (.slice (some ⟨w.heap.size, 0, none⟩) size size) ∧ EndAt w w' (endL r size N 8)
set_option maxRecDepth 100000 in
set_option maxHeartbeats 4000000 in
theorem ending_calls (w : World) (ad : Option Addr) (cap : Nat) (r : List UInt8) (N size : Nat) (hr : 0 < r.length → ∃ b off, ad = some ⟨b, off, none⟩ ∧ BytesAt w b off r) (hc : r.length ≤ cap ∧ cap ≤ 9223372036854775807)
    (hsz : (size = 64 ∧ r.length < 56) ∨ (size = 128 ∧ 56 ≤ r.length ∧ r.length < 64)) (hN : N < 1000000000000000000) :
    Calls Tryd.prog 19 #[.slice ad r.length cap, .int .u64 N] w (EndOK w r size N) := by
  obtain ⟨i0, hi, hz0, hz1, hz2⟩ := info_parts Tryd.info5
  have HZ1 := Lib.hid hz1; have HI := Lib.hid hi; have HZ0 := Lib.hid hz0
  have hb : Hid (i0.bytes * size ≤ 281474976710656) := Lib.hid (by rw [hz2]; omega)
  clear hz0 hz1 hz2 hi
  obtain ⟨Z, hZ⟩ : ∃ Z, List.replicate size (0 : UInt8) = Z := ⟨_, rfl⟩
  have HE : Hid (w.alloc (.cells (madeCells (Value.int .u8 0).cells (size * i0.size)) 5) = w.alloc (.cells (cel Z).toArray 5)) :=
    Lib.hid (by rw [HZ1.out, Nat.mul_one, ← hZ, cel_rep, ← toList_madeCells_one]; rfl)
  have hZl : Z.length = size := by rw [← hZ]; simp
  have hs9 : r.length + 9 ≤ size := by omega
  have HZ : Hid ((splice Z 0 r).set r.length 128 = endL r size N 0) := Lib.hid (by rw [← hZ]; exact endL_zero r size N hs9)
  have HP : Hid (0 < (cel r).length → some (⟨w.heap.size, 0, none⟩ : Addr) = some ⟨w.heap.size, 0, none⟩ ∧ ∃ a', ad = some a' ∧ ∀ j v, (cel r)[j]? = some v → (w.alloc (.cells (cel Z).toArray 5)).cell? (a'.add j) = some v) := Lib.hid (fun h0 => by
    rw [cel_length] at h0
    obtain ⟨b, off, rfl, hbs⟩ := hr h0
    refine ⟨rfl, _, rfl, fun j v hv => ?_⟩
    rw [Addr.add_mid]
    exact hbs.keep ((Fr.refl [] w).alloc _) (by simp) (World.block_lt_of_cell? _ _ (hbs.cell (j := 0) h0)) j v hv)
  have HBL : Hid (Below w.heap.size w (w.alloc (.cells (cel Z).toArray 5))) := Lib.hid (((Fr.refl [] w).alloc _).below (Nat.le_refl _) (by simp))
  have HNW : Hid ((w.alloc (.cells (cel Z).toArray 5)).heap[w.heap.size]? = some (.cells (cel Z).toArray 5 (0, 0))) := Lib.hid (heap_alloc_last _ _)
  have HMN : Hid ((cel r).length = Nat.min r.length size) := Lib.hid (by rw [cel_length]; exact (Nat.min_eq_left (by omega)).symm)
  have HFT : Hid (0 + (cel r).length ≤ (cel Z).length) := Lib.hid (by rw [cel_length, cel_length, hZl]; omega)
  have HZL := Lib.hid hZl
  have H9 := Lib.hid hs9
  clear hr hs9 hZl hZ
  obtain ⟨n, hn⟩ : ∃ n, r.length = n := ⟨_, rfl⟩
  have HNL := Lib.hid hn
  rw [hn] at hc hsz HMN ⊢
  clear hn
  rcases hsz with ⟨rfl, h1⟩ | ⟨rfl, h1, h2⟩
  ·
    go_enter Tryd.func19, Tryd.ntmps19
    go_wp2_with (first
      | ((with_reducible_and_instances refine id (α := wpList _ _ _ (⟨some 15, .makeSlice _ _ _, _, _, _, _⟩ :: _) _ _) ?_); (first | refine wL_make rfl _ _ 23 rfl 5 i0 (.int .u8 0) Tryd.underlying23 HI.out HZ0.out 64 rfl rfl hb.out (by decide) ?_ | refine wL_make rfl _ _ 23 rfl 5 i0 (.int .u8 0) Tryd.underlying23 HI.out HZ0.out 128 rfl rfl hb.out (by decide) ?_); rw [HE.out])
      | ((with_reducible_and_instances refine id (α := wpList _ _ _ (⟨some 18, .call _, _, _, _, _⟩ :: _) _ _) ?_); (first | refine wpList_copy_splice rfl (.tmp 16) (.tmp 17) 23 23 rfl 5 Tryd.underlying23 Tryd.size5 (some ⟨w.heap.size, 0, none⟩) ad 64 64 n cap rfl rfl w.heap.size 0 (cel Z) 5 HNW.out (cel r) HMN.out HP.out HFT.out (cel_one r) w.heap.size w HBL.out (Nat.le_refl _) ?_ | refine wpList_copy_splice rfl (.tmp 16) (.tmp 17) 23 23 rfl 5 Tryd.underlying23 Tryd.size5 (some ⟨w.heap.size, 0, none⟩) ad 128 128 n cap rfl rfl w.heap.size 0 (cel Z) 5 HNW.out (cel r) HMN.out HP.out HFT.out (cel_one r) w.heap.size w HBL.out (Nat.le_refl _) ?_))
      | fail)
    intro w2 HC hbl
    have hA : EndAt w w2 (splice Z 0 r) := ⟨⟨hbl.os, hbl.tape, hbl.output, hbl.size, fun k hk _ => hbl.block k hk⟩, by rw [← cel_splice]; exact HC.out⟩
    have hlen : (splice Z 0 r).length = Z.length := length_splice _ _ _ (by have := HFT.out; rwa [cel_length, cel_length] at this)
    have hcl : w2.cell? ⟨w.heap.size, n, none⟩ = some (.int .u8 ((splice Z 0 r).getD n 0).toNat) := hA.cell (by rw [hlen, HZL.out]; omega)
    have hfl := box_free hA.row n
    have hA2 := hA.next n 128
    rw [← HNL.out, HZ.out, HNL.out] at hA2
    have HA2 := Lib.hid hA2
    clear hA hA2 HC hbl hlen
    go_wp2_with fail
    go_loopw [25] (fun v25 wr => ∃ k : Nat, k ≤ 8 ∧ v25 = .int .i64 k ∧ EndAt w wr (endL r 64 N k)) (fun v25 _ => 8 - (intOf v25).toNat)
    case atStart => exact ⟨0, by omega, rfl, HA2.out⟩
    case round =>
      clear HA2
      obtain ⟨k, hk, rfl, hA⟩ := hrel
      by_cases hlt : k < 8
      · have hcl : wr.cell? ⟨w.heap.size, 64 - 1 - k, none⟩ = some (.int .u8 ((endL r 64 N k).getD (64 - 1 - k) 0).toNat) := hA.cell (by rw [endL_length]; omega)
        have hfl := box_free hA.row (64 - 1 - k)
        have hA2 := hA.next (64 - 1 - k) (byteI (((N : Int) * 8) / 2 ^ (8 * k)))
        rw [endL_set r 64 N k hlt H9.out, byteI_toNat] at hA2
        have HA2 := Lib.hid hA2
        clear hA hA2
        have e8 : (8 * (k : Int)).toNat = 8 * k := by omega
        go_wp2_with fail
        go_roundw
        case rel => exact ⟨k + 1, by omega, by go_num, HA2.out⟩
        case measure => simp [intOf]; omega
      · obtain rfl : k = 8 := by omega
        have HA := Lib.hid hA; clear hA
        go_wp2_with fail
        go_ret
        exact ⟨rfl, HA.out⟩
  ·
    go_enter Tryd.func19, Tryd.ntmps19
    go_wp2_with (first
      | ((with_reducible_and_instances refine id (α := wpList _ _ _ (⟨some 15, .makeSlice _ _ _, _, _, _, _⟩ :: _) _ _) ?_); (first | refine wL_make rfl _ _ 23 rfl 5 i0 (.int .u8 0) Tryd.underlying23 HI.out HZ0.out 64 rfl rfl hb.out (by decide) ?_ | refine wL_make rfl _ _ 23 rfl 5 i0 (.int .u8 0) Tryd.underlying23 HI.out HZ0.out 128 rfl rfl hb.out (by decide) ?_); rw [HE.out])
      | ((with_reducible_and_instances refine id (α := wpList _ _ _ (⟨some 18, .call _, _, _, _, _⟩ :: _) _ _) ?_); (first | refine wpList_copy_splice rfl (.tmp 16) (.tmp 17) 23 23 rfl 5 Tryd.underlying23 Tryd.size5 (some ⟨w.heap.size, 0, none⟩) ad 64 64 n cap rfl rfl w.heap.size 0 (cel Z) 5 HNW.out (cel r) HMN.out HP.out HFT.out (cel_one r) w.heap.size w HBL.out (Nat.le_refl _) ?_ | refine wpList_copy_splice rfl (.tmp 16) (.tmp 17) 23 23 rfl 5 Tryd.underlying23 Tryd.size5 (some ⟨w.heap.size, 0, none⟩) ad 128 128 n cap rfl rfl w.heap.size 0 (cel Z) 5 HNW.out (cel r) HMN.out HP.out HFT.out (cel_one r) w.heap.size w HBL.out (Nat.le_refl _) ?_))
      | fail)
    intro w2 HC hbl
    have hA : EndAt w w2 (splice Z 0 r) := ⟨⟨hbl.os, hbl.tape, hbl.output, hbl.size, fun k hk _ => hbl.block k hk⟩, by rw [← cel_splice]; exact HC.out⟩
    have hlen : (splice Z 0 r).length = Z.length := length_splice _ _ _ (by have := HFT.out; rwa [cel_length, cel_length] at this)
    have hcl : w2.cell? ⟨w.heap.size, n, none⟩ = some (.int .u8 ((splice Z 0 r).getD n 0).toNat) := hA.cell (by rw [hlen, HZL.out]; omega)
    have hfl := box_free hA.row n
    have hA2 := hA.next n 128
    rw [← HNL.out, HZ.out, HNL.out] at hA2
    have HA2 := Lib.hid hA2
    clear hA hA2 HC hbl hlen
    go_wp2_with fail
    go_loopw [25] (fun v25 wr => ∃ k : Nat, k ≤ 8 ∧ v25 = .int .i64 k ∧ EndAt w wr (endL r 128 N k)) (fun v25 _ => 8 - (intOf v25).toNat)
    case atStart => exact ⟨0, by omega, rfl, HA2.out⟩
    case round =>
      clear HA2
      obtain ⟨k, hk, rfl, hA⟩ := hrel
      by_cases hlt : k < 8
      · have hcl : wr.cell? ⟨w.heap.size, 128 - 1 - k, none⟩ = some (.int .u8 ((endL r 128 N k).getD (128 - 1 - k) 0).toNat) := hA.cell (by rw [endL_length]; omega)
        have hfl := box_free hA.row (128 - 1 - k)
        have hA2 := hA.next (128 - 1 - k) (byteI (((N : Int) * 8) / 2 ^ (8 * k)))
        rw [endL_set r 128 N k hlt H9.out, byteI_toNat] at hA2
        have HA2 := Lib.hid hA2
        clear hA hA2
        have e8 : (8 * (k : Int)).toNat = 8 * k := by omega
        go_wp2_with fail
        go_roundw
        case rel => exact ⟨k + 1, by omega, by go_num, HA2.out⟩
        case measure => simp [intOf]; omega
      · obtain rfl : k = 8 := by omega
        have HA := Lib.hid hA; clear hA
        go_wp2_with fail
        go_ret
        exact ⟨rfl, HA.out⟩
end Go.Proofs.YthegllpmefilkaaDoor
