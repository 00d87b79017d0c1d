/-
  HashLengths: the walk.
-/
import Derived.Test.YthegllpmefilkaaDoorHashIsW
namespace Go.Proofs.YthegllpmefilkaaDoor
open Go.RowKit Go.MapKept
theorem fill_step (c : UInt8) (n k : Nat) (h : k < n) : (List.replicate k c ++ List.replicate (n - k) 0).set k c = List.replicate (k + 1) c ++ List.replicate (n - (k + 1)) 0 := by
  apply List.ext_getElem?
  intro j
  by_cases hj : j = k
  · subst hj
    rw [List.getElem?_set_self (by simp; omega), List.getElem?_append_left (by simp), List.getElem?_replicate, if_pos (by omega)]
  · rw [List.getElem?_set_ne (by omega)]
    by_cases hk : j < k
    · rw [List.getElem?_append_left (by simpa using hk), List.getElem?_append_left (by simp; omega), List.getElem?_replicate, List.getElem?_replicate, if_pos hk, if_pos (by omega)]
    · rw [List.getElem?_append_right (by simp; omega), List.getElem?_append_right (by simp; omega), List.getElem?_replicate, List.getElem?_replicate]
      simp only [List.length_replicate]
      by_cases hn : j < n
      · rw [if_pos (by omega), if_pos (by omega)]
      · rw [if_neg (by omega), if_neg (by omega)]
theorem EndAt.reads {w wr : World} {m : List UInt8} (h : EndAt w wr m) (hl : m.length ≤ 1000) : Reads wr (some ⟨w.heap.size, 0, none⟩) m.length m :=
  ⟨Nat.le_refl _, by omega, by omega, (fun e => by cases e), fun a ha _ => by
    cases ha
    refine ⟨_, 0, rfl, fun j v hv => ?_⟩
    rw [Nat.zero_add, box_cell h.row, List.getElem?_toArray]
    exact hv⟩
set_option maxRecDepth 100000 in
set_option maxHeartbeats 8000000 in
theorem lens_calls (w : World) (c : UInt8) (x : Int) (hT : TabAt w) :
    Calls Tryd.prog 3 #[.int .u8 c.toNat, .int .i64 x] w fun e w' => e = .returned (.bool true) ∧ Fr [] w w' := by
  have HT := Lib.hid hT
  have KA : Hid (∀ W, Fr [] w W → Calls Tryd.prog 8 #[] W _) := Lib.hid (fun W hf => awake_calls W (hT.keep hf (by simp)))
  by_cases h0 : x < 0
  · clear hT
    go_enter Tryd.func3, Tryd.ntmps3
    go_wp2_with fail
    refine (KA.out w (Fr.refl _ _)).mono ?_
    rintro e w7 ⟨rfl, hf7⟩
    go_wp2_with fail
    go_ret
    exact ⟨rfl, hf7⟩
  · by_cases h2 : 200 < x
    · clear hT
      go_enter Tryd.func3, Tryd.ntmps3
      go_wp2_with fail
      refine (KA.out w (Fr.refl _ _)).mono ?_
      rintro e w7 ⟨rfl, hf7⟩
      go_wp2_with fail
      go_ret
      exact ⟨rfl, hf7⟩
    · obtain ⟨n, rfl⟩ : ∃ n : Nat, x = n := ⟨x.toNat, by omega⟩
      have hn : n ≤ 200 := by omega
      have h0' : ¬ (n : Int) < 0 := by omega
      have h2' : ¬ (200 : Int) < (n : Int) := by omega
      obtain ⟨i0, hi, hz0, hz1, hz2⟩ := info_parts Tryd.info5
      have HI := Lib.hid hi; have HZ0 := Lib.hid hz0
      have hb : Hid (i0.bytes * n ≤ 281474976710656) := Lib.hid (by rw [hz2]; omega)
      have HE : Hid (w.alloc (.cells (madeCells (Value.int .u8 0).cells (n * i0.size)) 5) = w.alloc (.cells (cel (List.replicate n 0)).toArray 5)) :=
        Lib.hid (by rw [hz1, Nat.mul_one, cel_rep, ← toList_madeCells_one]; rfl)
      have HST : Hid (EndAt w (w.alloc (.cells (cel (List.replicate n 0)).toArray 5)) (List.replicate 0 c ++ List.replicate (n - 0) 0)) := Lib.hid ⟨(Fr.refl [] w).alloc _, by simpa using heap_alloc_last w (.cells (cel (List.replicate n 0)).toArray 5)⟩
      have KM : Hid (∀ wr, EndAt w wr (List.replicate n c) → (∀ W, Fr [] wr W → Calls Tryd.prog 9 #[.slice (some ⟨w.heap.size, 0, none⟩) n n] W (NewB W (shaB (List.replicate n c)))) ∧ StrB wr (.slice (some ⟨w.heap.size, 0, none⟩) n n) ⟨(List.replicate n c).toArray⟩) := Lib.hid (fun wr h => by
        have hr := h.reads (by simp; omega)
        have hp : Plain (some (⟨w.heap.size, 0, none⟩ : Addr)) n := .inl (fun a ha => by cases ha; exact ⟨_, _, rfl⟩)
        rw [List.length_replicate] at hr
        refine ⟨fun W hf => ?_, ?_⟩
        · have := sha_any W _ n (List.replicate n c) (hr.keep hf) (hT.keep (h.fr.trans hf) (by simp)) hp
          rwa [List.length_replicate] at this
        · have := StrB.reads hr
          rwa [List.length_replicate] at this)
      have KR : Hid (∀ W, Calls Tryd.prog 10 #[.string ⟨(List.replicate n c).toArray⟩] W _) := Lib.hid (fun W => rsha_calls W (List.replicate n c) (by simp; omega))
      clear hz0 hz1 hz2 hi hT
      go_enter Tryd.func3, Tryd.ntmps3
      go_wp2_with (first
        | ((with_reducible_and_instances refine id (α := wpList _ _ _ (⟨some 15, .makeSlice _ _ _, _, _, _, _⟩ :: _) _ _) ?_); refine wL_make rfl _ _ 23 rfl 5 i0 (.int .u8 0) Tryd.underlying23 HI.out HZ0.out n rfl rfl hb.out (by omega) ?_; rw [HE.out])
        | fail)
      go_loopw [18] (fun v18 wr => ∃ k : Nat, k ≤ n ∧ v18 = .int .i64 k ∧ EndAt w wr (List.replicate k c ++ List.replicate (n - k) 0)) (fun v18 _ => n - (intOf v18).toNat)
      case atStart => exact ⟨0, by omega, rfl, HST.out⟩
      case round =>
        clear HST HE
        rename World => wr
        obtain ⟨k, hk, rfl, hE⟩ := hrel
        by_cases hlt : k < n
        · have hlt' : (k : Int) < (n : Int) := by omega
          have hk0 : (0 : Int) ≤ (k : Int) := by omega
          have hlen : (List.replicate k c ++ List.replicate (n - k) (0 : UInt8)).length = n := by simp; omega
          have c0 := hE.cell (i := k) (by rw [hlen]; exact hlt)
          have f0 := box_free hE.row k
          have hnx := hE.next k c
          rw [fill_step c n k hlt] at hnx
          have HNX := Lib.hid hnx
          clear hE hnx hlen
          go_wp2_with fail
          go_roundw
          case rel => exact ⟨k + 1, by omega, by go_num, HNX.out⟩
          case measure => simp [intOf]; omega
        · obtain rfl : k = n := by omega
          rw [Nat.sub_self, List.replicate_zero, List.append_nil] at hE
          obtain ⟨K9, hS⟩ := KM.out wr hE
          have HFR := Lib.hid hE.fr
          have hsame := beq_selfB ⟨(shaB (List.replicate k c)).toArray⟩
          have K9 := Lib.hid K9
          clear hE KM
          generalize List.replicate k c = m at *
          unfold StrB at hS
          have hq : Fr [] wr wr.drew := (Fr.refl [] wr).drew
          go_wp2_with fail
          go_region_with (first
            | (go_at_call 9; (with_reducible refine (K9.out _ hq).mono ?_); rintro e wa hN; obtain ⟨ad9, c9, rfl, hfa, hsa⟩ := newS hN; have hra := Fr.refl [] wa; have hq := hq.trans hfa; unfold StrB at hsa; clear hN)
            | (go_at_call 10; (with_reducible refine (KR.out _).mono ?_); rintro e wb hN; obtain ⟨ad12, c12, rfl, hfb, hsb⟩ := newS hN; have hrb := Fr.refl [] wb; have hq := hq.trans hfb; unfold StrB at hsb; clear hN)
            | (go_at_call 8; (with_reducible refine (KA.out _ (HFR.out.trans hq)).mono ?_); rintro e w7 ⟨rfl, hf⟩; have hq := hq.trans hf; clear hf))
          all_goals
            have HZ := Lib.hid (HFR.out.trans hq)
            clear hq
            go_wp2_with fail
            go_ret
            exact ⟨rfl, HZ.out⟩
end Go.Proofs.YthegllpmefilkaaDoor
