/-
  The 64 words of a block.
-/
import Derived.Test.YthegllpmefilkaaDoorShaW
import Derived.Lib.Hide
import Derived.Outline
namespace Go.Proofs.YthegllpmefilkaaDoor
open Go.RowKit Go.MapKept
/-- Words as a value's parts. -/
def wv (l : List Int) : Array Value := (l.map (Value.int .u32)).toArray
theorem wv_size (l : List Int) : (wv l).size = l.length := by simp [wv]
theorem wv_get (l : List Int) (i : Nat) (h : i < l.length) : (wv l)[i]? = some (.int .u32 (l.getD i 0)) := by simp [wv, h]
theorem wv_set (l : List Int) (i : Nat) (x : Int) : (wv l).setIfInBounds i (.int .u32 x) = wv (l.set i x) := by
  apply Array.ext_getElem?
  intro j
  simp only [Array.getElem?_setIfInBounds, wv, List.getElem?_toArray, List.getElem?_map, List.getElem?_set, List.size_toArray, List.length_map]
  split <;> rename_i h
  · subst h
    split <;> simp_all
  · rfl
theorem wv_one (l : List Int) : (wv l).all (·.oneCell') = true := by
  refine all_oneCell_toArray (fun v hv => ?_)
  obtain ⟨x, _, rfl⟩ := List.mem_map.1 hv
  rfl
/-- The first words, and noughts. -/
def pad0 (n : Nat) (l : List Int) : List Int := l ++ List.replicate (n - l.length) 0
theorem pad0_length {n : Nat} {l : List Int} (h : l.length ≤ n) : (pad0 n l).length = n := by simp [pad0]; omega
theorem pad0_get {n : Nat} {l : List Int} {i : Nat} (h : i < l.length) : (pad0 n l).getD i 0 = l.getD i 0 := by simp [pad0, List.getD_eq_getElem?_getD, List.getElem?_append, h]
theorem pad0_set {n : Nat} {l : List Int} (h : l.length < n) (x : Int) : (pad0 n l).set l.length x = pad0 n (l ++ [x]) := by
  have e : n - l.length = (n - (l.length + 1)) + 1 := by omega
  simp [pad0, e, List.replicate_succ]
theorem pad0_full (l : List Int) : pad0 l.length l = l := by simp [pad0]
theorem schN_length (b : List UInt8) : ∀ n, (schN b n).length = n
  | 0 => rfl
  | n + 1 => by simp [schN, schN_length b n]
theorem sch_length (b : List UInt8) : (sch b).length = 64 := schN_length b 64
theorem Tryd.zero51 (w : World) : (zeroValue 51).run Tryd.prog w = .ok (.agg (wv (pad0 64 []))) w := by kernel_rfl
theorem Tryd.size51 : (Tryd.prog.info? 51).map (·.size) = some 64 := by kernel_rfl
theorem BytesAt.keep {w w' : World} {b off : Nat} {s : List UInt8} {l : List Nat} (h : BytesAt w b off s) (hfr : Fr l w w') (hn : b ∉ l) (hb : b < w.heap.size) : BytesAt w' b off s := by
  intro j v hv
  rw [World.cell?_of_block (w := w) (hfr.block b hb hn)]
  exact h j v hv
theorem sch_pad (s : List UInt8) : pad0 64 (schN s 64) = sch s := by
  have := pad0_full (schN s 64)
  rwa [schN_length] at this
theorem Tryd.info51 (S : List Int) (h : S.length = 64) : (Tryd.prog.info? 51).map (·.size) = some (wv S).size := by rw [wv_size, h]; exact Tryd.size51
theorem pad_size (n : Nat) (S : List Int) (h : S.length = n) : (wv (pad0 n [])).size = (wv S).size := (wv_size _).trans ((pad0_length (Nat.zero_le _)).trans (h.symm.trans (wv_size _).symm))
theorem turn_still (w : World) (x : Int) (n : Int) (hn : 0 ≤ n ∧ n ≤ 31) :
    Calls Tryd.prog 27 #[.int .u32 x, .int .u64 n] w fun e w' => e = .returned (.int .u32 (rorI x n)) ∧ w' = w := (turn_calls w x n hn).mono fun _ _ ⟨h1, h2⟩ => ⟨h1, h2.symm⟩
/-- The words so far, in the block that schedule makes second; the first one is for the result. -/
structure SchAt (w wr : World) (l : List Int) : Prop where
  fr : Fr [] w wr
  res : wr.heap[w.heap.size]? = some (.cells (wv (pad0 64 [])) 51 (0, 0))
  ws : wr.heap[w.heap.size + 1]? = some (.cells (wv (pad0 64 l)) 51 (0, 0))
theorem SchAt.drewN {w wr : World} {l : List Int} (h : SchAt w wr l) (j : Nat) : SchAt w (wr.drewN j) l := ⟨⟨h.fr.os, h.fr.tape, h.fr.output, h.fr.size, h.fr.block⟩, h.res, h.ws⟩
theorem SchAt.next {w wr : World} {l : List Int} (h : SchAt w wr l) (x : Int) (hl : l.length < 64) : SchAt w (wr.setCell ⟨w.heap.size + 1, l.length, none⟩ (.int .u32 x)) (l ++ [x]) := by
  refine ⟨h.fr.setCell (.inr (by simp)) _, ?_, ?_⟩
  · rw [heap_set_other (by simp)]; exact h.res
  · rw [box_set h.ws, wv_set, pad0_set hl]
set_option maxRecDepth 100000 in
set_option maxHeartbeats 2000000 in
theorem schedule_calls (w : World) (b off cap : Nat) (s : List UInt8) (hs : BytesAt w b off s) (hl : s.length = 64) (hc : 64 ≤ cap ∧ cap ≤ 9223372036854775807) :
    Calls Tryd.prog 26 #[.slice (some ⟨b, off, none⟩) 64 cap] w fun e w' => e = .returned (.agg (wv (sch s))) ∧ Fr [] w w' := by
  go_enter Tryd.func26, Tryd.ntmps26
  go_wp2_with (first
    | (refine wL_allocW (o := ⟨some 2, .alloc 51, _, _, _, _⟩) rfl 51 rfl _ Tryd.zero51 ?_)
    | (refine wL_allocW (o := ⟨some 3, .alloc 51, _, _, _, _⟩) rfl 51 rfl _ Tryd.zero51 ?_))
  have hbw : b < w.heap.size := World.block_lt_of_cell? _ _ (hs.cell (j := 0) (by omega))
  go_loopw [8] (fun v8 wr => ∃ k : Nat, k ≤ 16 ∧ v8 = .int .i64 k ∧ SchAt w wr (schN s k)) (fun v8 _ => 16 - (intOf v8).toNat)
  case atStart => exact ⟨0, by omega, rfl, ⟨((Fr.refl [] w).alloc _).alloc _, heap_alloc2_old _ _ _, heap_alloc2_new _ _ _⟩⟩
  case round =>
    obtain ⟨k, hk, rfl, hA⟩ := hrel
    by_cases hlt : k < 16
    · have hsr := hs.keep hA.fr (by simp) hbw
      have HA := Lib.hid hA; clear hA
      go_wp2_with fail
      refine (word_calls _ b off _ s hsr k (by omega)).mono ?_
      rintro e w1 ⟨rfl, hw1⟩
      have hA : SchAt w w1 (schN s k) := by
        obtain ⟨j, rfl⟩ := hw1
        exact HA.out.drewN j
      have hA2 : SchAt w (w1.setCell ⟨w.heap.size + 1, k, none⟩ (.int .u32 (wordI s k))) (schN s (k + 1)) := by
        have := hA.next (wordI s k) (by rw [schN_length]; omega)
        rw [schN_length] at this
        rw [schN, if_pos hlt]
        exact this
      have hcell := box_cell hA.ws k
      have hfree := box_free hA.ws k
      rw [wv_get _ _ (by rw [pad0_length (by rw [schN_length]; omega)]; omega)] at hcell
      have HA2 := Lib.hid hA2
      clear hA hA2 hw1
      go_wp2_with fail
      go_roundw
      case rel => exact ⟨k + 1, by omega, by go_num, HA2.out⟩
      case measure => simp [intOf]; omega
    · obtain rfl : k = 16 := by omega
      have HA := Lib.hid hA; clear hA
      go_wp2_with fail
      rw [show ((16 : Nat) : Int) = 16 from rfl]
      go_loopw [5] (fun v5 wr => ∃ k : Nat, 16 ≤ k ∧ k ≤ 64 ∧ v5 = .int .i64 k ∧ SchAt w wr (schN s k)) (fun v5 _ => 64 - (intOf v5).toNat)
      case atStart => exact ⟨16, by omega, by omega, rfl, HA.out⟩
      case round =>
        obtain ⟨k, hk0, hk, rfl, hA⟩ := hrel
        clear HA
        by_cases hlt : k < 64
        · have hcell : ∀ j, 0 < j → j ≤ k → wr.cell? ⟨w.heap.size + 1, k - j, none⟩ = some (.int .u32 ((schN s k).getD (k - j) 0)) := fun j h0 hj => by
            rw [box_cell hA.ws, wv_get _ _ (by rw [pad0_length (by rw [schN_length]; omega)]; omega), pad0_get (by rw [schN_length]; omega)]
          have c15 := hcell 15 (by omega) (by omega)
          have c2 := hcell 2 (by omega) (by omega)
          have c16 := hcell 16 (by omega) (by omega)
          have c7 := hcell 7 (by omega) (by omega)
          have hn : nextW (schN s k) k = ((schN s k).getD (k - 16) 0 + sg0 ((schN s k).getD (k - 15) 0) + (schN s k).getD (k - 7) 0 + sg1 ((schN s k).getD (k - 2) 0)) % 4294967296 := rfl
          generalize (schN s k).getD (k - 16) 0 = x16 at c16 hn
          generalize (schN s k).getD (k - 15) 0 = x15 at c15 hn
          generalize (schN s k).getD (k - 7) 0 = x7 at c7 hn
          generalize (schN s k).getD (k - 2) 0 = x2 at c2 hn
          have HN := Lib.hid hn; clear hn
          have k16 : (16 : Int) ≤ k := by omega
          have k15 : (15 : Int) ≤ k := by omega
          have k7 : (7 : Int) ≤ k := by omega
          have k2 : (2 : Int) ≤ k := by omega
          have HA := Lib.hid hA
          clear hcell hA
          have e15 : IntKind.i64.wrap ((k : Int) - 15) = (k : Int) - 15 := IntWalk.i64_in _ (by omega)
          have e2 : IntKind.i64.wrap ((k : Int) - 2) = (k : Int) - 2 := IntWalk.i64_in _ (by omega)
          have e16 : IntKind.i64.wrap ((k : Int) - 16) = (k : Int) - 16 := IntWalk.i64_in _ (by omega)
          have e7 : IntKind.i64.wrap ((k : Int) - 7) = (k : Int) - 7 := IntWalk.i64_in _ (by omega)
          have n15 : ((k : Int) - 15).toNat = k - 15 := by omega
          have n2 : ((k : Int) - 2).toNat = k - 2 := by omega
          have n16 : ((k : Int) - 16).toNat = k - 16 := by omega
          have n7 : ((k : Int) - 7).toNat = k - 7 := by omega
          have b15 : (0 : Int) ≤ (k : Int) - 15 ∧ (k : Int) - 15 < 64 := by omega
          have b2 : (0 : Int) ≤ (k : Int) - 2 ∧ (k : Int) - 2 < 64 := by omega
          have b16 : (0 : Int) ≤ (k : Int) - 16 ∧ (k : Int) - 16 < 64 := by omega
          have b7 : (0 : Int) ≤ (k : Int) - 7 ∧ (k : Int) - 7 < 64 := by omega
          go_wp2_with fail
          go_quiet (fail)
          go_wp2_with fail
          have hA : SchAt w (wr.drewN nq) (schN s k) := HA.out.drewN nq
          have c16 : (wr.drewN nq).cell? ⟨w.heap.size + 1, k - 16, none⟩ = some (.int .u32 x16) := c16
          have c7 : (wr.drewN nq).cell? ⟨w.heap.size + 1, k - 7, none⟩ = some (.int .u32 x7) := c7
          generalize wr.drewN nq = w1 at *
          have hA2 : SchAt w (w1.setCell ⟨w.heap.size + 1, k, none⟩ (.int .u32 (nextW (schN s k) k))).drew (schN s (k + 1)) := by
            have := (hA.next (nextW (schN s k) k) (by rw [schN_length]; omega)).drewN 1
            rw [schN_length] at this
            rw [schN, if_neg (by omega)]
            exact this
          rw [HN.out] at hA2
          have hcell := box_cell hA.ws k
          have hfree := box_free hA.ws k
          rw [wv_get _ _ (by rw [pad0_length (by rw [schN_length]; omega)]; omega)] at hcell
          have HA2 := Lib.hid hA2
          clear hA hA2 HA c15 c2 e15 e2 n15 n2 b15 b2
          refine wp_region_still_tail 29 (by kernel_rfl) (by kernel_rfl) ?_
          change wpStill _ _ w1.drew _ _ _
          simp only [List.take_succ_cons, List.take_zero, List.drop_succ_cons, List.drop_zero]
          iterate 6 still_step
          still_call (turn_still _ _ 7 (by decide))
          still_step
          still_call (turn_still _ _ 18 (by decide))
          iterate 11 still_step
          still_call (turn_still _ _ 17 (by decide))
          still_step
          still_call (turn_still _ _ 19 (by decide))
          repeat still_step
          refine wpStill_nil ?_
          go_wp2_with fail
          go_roundw
          case rel => exact ⟨k + 1, by omega, by omega, by go_num, HA2.out⟩
          case measure => simp [intOf]; omega
        · obtain rfl : k = 64 := by omega
          have hw := hA.ws
          rw [sch_pad] at hw
          have hZ0 := sch_length s
          obtain ⟨S, hS⟩ : ∃ S, sch s = S := ⟨_, rfl⟩
          rw [hS] at hw hZ0
          have HS := Lib.hid hS; clear hS
          have hF : Fr [] w (wr.setRow w.heap.size (wv S)) := hA.fr.setRow (.inr (Nat.le_refl _))
          have hR : (wr.setRow w.heap.size (wv S)).heap[w.heap.size]? = some (.cells (wv S) 51 (0, 0)) := setRow_heap _ _ _ _ _ _ hA.res
          have HW := Lib.hid hw; clear hw
          have HQ := Lib.hid hA.res; clear hA
          have HR := Lib.hid hR; clear hR
          have HZ := Lib.hid hZ0; clear hZ0
          go_wp2_with (first
            | ((with_reducible_and_instances refine id (α := wpList _ _ _ (⟨some 63, .load 51 (.tmp 3), _, _, _, _⟩ :: _) _ _) ?_); refine wpList_load_row rfl 51 (.tmp 3) rfl (w.heap.size + 1) rfl 51 (wv S) (0, 0) _ HW.out Tryd.underlying51 rfl (Tryd.info51 S HZ.out) ?_)
            | ((with_reducible_and_instances refine id (α := wpList _ _ _ (⟨none, .store 51 (.tmp 2) (.tmp 63), _, _, _, _⟩ :: _) _ _) ?_); refine wL_storeW rfl 51 (.tmp 2) (.tmp 63) rfl w.heap.size rfl (wv S) rfl 51 _ HQ.out (Tryd.info51 S HZ.out) (pad_size 64 S HZ.out) (wv_one _) ?_))
          exact bodyPost_ret (results_cell_row rfl _ _ w.heap.size 51 (wv S) (0, 0) _ rfl HR.out Tryd.underlying51 rfl (Tryd.info51 S HZ.out)) rfl ⟨by rw [HS.out], hF⟩
end Go.Proofs.YthegllpmefilkaaDoor
