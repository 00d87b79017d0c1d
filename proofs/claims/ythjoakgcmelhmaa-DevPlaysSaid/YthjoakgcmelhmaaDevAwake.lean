/-
  What the document fixes of two sectors comes out.
-/
import Derived.Test.YthjoakgcmelhmaaQuiet
import Derived.Test.YthjoakgcmelhmaaDevRead2
import Derived.Test.YthjoakgcmelhmaaDevWrite
import Derived.Test.YthjoakgcmelhmaaDevCrash
import Derived.Test.YthjoakgcmelhmaaDevSmall
import Derived.Lib.QuietBelow
namespace Go.Proofs.Ythjoakgcmelhmaa
open Go.RowKit Go.MapKept
theorem made_zeros : madeCells #[.int .u8 0] 64 = (cel zeros).toArray := by
  have h : ∀ n : Nat, madeCells #[.int .u8 0] n = (cel (List.replicate n 0)).toArray := by
    intro n
    apply Array.ext_getElem?
    intro j
    by_cases hj : j < n
    · simp [madeCells, cel, hj, Nat.mod_one]
    · simp [madeCells, cel, hj]
  exact h 64
/-- A slice's bytes stay where they are. -/
theorem range_keep {w w' : World} {b o : Nat} {cs : List Value} (h : w.rangeAt b o cs) {r : List Nat} (hfr : Fr r w w') (hb : b ∉ r) : w'.rangeAt b o cs := fun j v hv => by
  have h1 := h j v hv
  have h2 := World.block_lt_of_cell? _ _ h1
  rw [World.cell?_of_block (w := w) (hfr.block b h2 hb)]; exact h1
/-- What is owned lies somewhere. -/
theorem owns_range {w : World} {B : Nat} {T : TypeId} {v : Value} {n : Nat} {xs : List Value} (h : w.ownsRow B T 1 v n xs) (hn : 0 < n) : ∃ g cap, v = .slice (some ⟨g, 0, none⟩) n cap ∧ B ≤ g ∧ g < w.heap.size ∧ w.rangeAt g 0 xs ∧ w.there g 0 n := by
  obtain ⟨h1, h2⟩ := h
  rcases h2 with ⟨_, h3⟩ | ⟨g, cap, cur, h3, h4, h5, h6, h7, h8, h9⟩
  · subst h3; simp at h1; omega
  · refine ⟨g, cap, h3, h4, lt_of_heap h5, fun j v hv => ?_, fun j hj => ?_⟩
    · rw [box_cell h5, Nat.zero_add]
      have : (cur.toList.take (n * 1))[j]? = some v := by rw [h9]; exact hv
      rw [List.getElem?_take] at this
      split at this
      · simpa using this
      · cases this
    · rw [box_cell h5, box_free h5, Nat.zero_add]
      refine ⟨?_, rfl⟩
      have : j < cur.size := by rw [h8]; omega
      simp [this]
set_option maxRecDepth 100000 in
set_option maxHeartbeats 400000 in
theorem zero_calls (w : World) : Calls Try.prog 25 #[] w fun e w' => e = .returned (.string ⟨zeros.toArray⟩) ∧ Fr [] w w' := by
  obtain ⟨i0, hi, hz0, hz1, hz2⟩ := info_parts Try.info5
  have HZ1 := Lib.hid hz1; have HI := Lib.hid hi; have HZ0 := Lib.hid hz0
  have hb : Hid (i0.bytes * 64 ≤ 281474976710656) := Lib.hid (by rw [hz2]; omega)
  clear hz0 hz1 hz2 hi
  have hs : (convert 28 9 (.slice (some ⟨w.heap.size, 0, none⟩) 64 64)).run Try.prog (w.alloc (.cells (cel zeros).toArray 5)) = .ok (.string ⟨zeros.toArray⟩) (w.alloc (.cells (cel zeros).toArray 5)) :=
    run_toString Try.underlying28 Try.underlying5 Try.underlying9 w.heap.size 0 64 zeros 64 (by simp [zeros]) (rangeAt_new _ _ _ _ rfl)
  have HE : Hid (w.alloc (.cells (madeCells (Value.int .u8 0).cells (64 * i0.size)) 5) = w.alloc (.cells (cel zeros).toArray 5)) := Lib.hid (by rw [HZ1.out, Nat.mul_one, ← made_zeros]; rfl)
  go_enter Try.func25, Try.ntmps25
  go_wp2_with (first
    | (refine wL_make (o := ⟨some 1, .makeSlice _ _ _, _, _, _, _⟩) rfl _ _ 28 rfl 5 i0 (.int .u8 0) Try.underlying28 HI.out HZ0.out 64 rfl rfl hb.out (by decide) ?_; rw [HE.out])
    | fail)
  go_ret
  exact ⟨rfl, (Fr.refl _ _).alloc _⟩
theorem build1 (w : World) : (Instr.buildSlice 22 1 #[(0, .int .i64 0)]).run Try.prog w = .ok (.slice (some ⟨w.heap.size, 0, none⟩) 1 1) (w.alloc (.cells #[.int .i64 0] 3)) := by kernel_rfl
set_option maxRecDepth 100000 in
set_option maxHeartbeats 1000000 in
theorem awake_calls (w : World) : Calls Try.prog 15 #[] w fun e w' => e = .returned (.bool true) ∧ Fr [] w w' := by
  have hbs := build1
  go_enter Try.func15, Try.ntmps15
  go_wp2_with fail
  refine (new_ok w 2 (by decide)).mono ?_
  rintro e w1 ⟨p, l, m, rfl, hf1, hp, hl, hm, hd1⟩
  go_wp2_with fail
  refine (bytes_calls w1 3 64 (by decide) (by decide)).mono ?_
  rintro e w2 ⟨rfl, hf2⟩
  have hd2 := hd1.keep hf2 (by simp) (by simp) (by simp)
  go_wp2_with (first
    | (refine wL_toBytes (o := ⟨some 21, .convert _ _ _, _, _, _, _⟩) rfl _ _ 5 _ rfl Try.underlying9 Try.underlying28 Try.underlying5 (bys 3 64) 64 (bys_length _ _) rfl ?_)
    | fail)
  intro cap w3 hf3 hs3 hr3
  have hd3 := hd2.keep hf3 (by simp) (by simp) (by simp)
  have hF3 : Fr [] w w3 := (hf1.trans hf2).trans hf3
  have hpw := lt_of_heap hd1.box
  have hz2 := hf2.size
  go_wp2_with fail
  refine (write_ok w3 p l m 2 2 0 (-1) _ _ hd3 (by decide) (by decide) (by decide) 1 (by decide) w2.heap.size 0 cap (bys 3 64) (bys_length _ _) hr3 (by omega)).mono ?_
  rintro e w4 ⟨rfl, hf4, hd4⟩
  have hF4 : Fr [] w w4 := hF3.trans_new hf4 (by intro x hx; simp at hx; omega)
  rw [show burnF (-1) = -1 from rfl] at hd4
  clear hd1 hd2 hd3 hr3 hf1 hf2 hf3 hs3 hF3 hz2
  have hz4 := hF4.size; have hp4 := lt_of_heap hd4.box; have hm4 := hd4.wai.lt
  have hl4 : l < w4.heap.size := by obtain ⟨lc, g1, _⟩ := hd4.las; exact lt_of_heap g1
  have hd5 : DevAt (w4.alloc (.cells #[.int .i64 0] 3)) p l m 2 2 (0 + 1) (-1) false (fun _ => zeros) (wrote (fun _ => none) 1 (bys 3 64)) := hd4.keep ((Fr.refl [] _).alloc _) (by simp) (by simp) (by simp)
  have hi5 : IntsAt (w4.alloc (.cells #[.int .i64 0] 3)) (some ⟨w4.heap.size, 0, none⟩) 1 [0] := by
    refine ⟨by simp, fun _ => ⟨_, _, rfl, fun i hi => ?_⟩⟩
    obtain rfl : i = 0 := by omega
    rw [box_cell (heap_alloc_new _ _)]; rfl
  go_wp2_with fail
  refine (crash_calls _ p l m 2 2 (0 + 1) (-1) false _ _ hd5 false (some ⟨w4.heap.size, 0, none⟩) 1 1 [0] hi5 (by decide) (fun _ => by simp; omega)).mono ?_
  rintro e w6 ⟨rfl, hf6, m6, hm6, hd6⟩
  have hls6 : (fun i : Nat => ((if false = true then without (wrote (fun _ => none) 1 (bys 3 64)) [0] 1 else among (wrote (fun _ => none) 1 (bys 3 64)) [0] 1) (i : Int)).getD zeros) = fun _ => zeros := by
    funext i
    rw [if_neg (by decide)]
    unfold among wrote
    by_cases h0 : (i : Int) ∈ List.take 1 [(0 : Int)]
    · rw [if_pos h0, if_neg (by simp at h0; omega)]; rfl
    · rw [if_neg h0]; rfl
  rw [hls6] at hd6
  have hF6 : Fr [] w w6 := (hF4.alloc _).trans_new hf6 (by intro x hx; simp at hx; omega)
  have hm6' : w.heap.size ≤ m6 := by rcases hm6 with rfl | h; exact hm; simp at h; omega
  clear hd4 hd5 hi5 hf6 hf4 hF4 hls6 hm6 hp4 hl4 hm4 hz4 hpw
  have hp6 := lt_of_heap hd6.box
  have hm6w := hd6.wai.lt
  have hl6 : l < w6.heap.size := by obtain ⟨lc, q1, _⟩ := hd6.las; exact lt_of_heap q1
  have hr7 := read_ok w6 p l m6 2 2 (0 + 1) (-1) _ _ hd6 (by decide) 1 (by decide)
  rw [show secNow (fun _ => zeros) (fun _ => none) 1 = zeros from rfl] at hr7
  have HR7 := Lib.hid hr7; clear hr7 hd6
  go_wp2_with fail
  refine HR7.out.mono ?_
  rintro e w7 ⟨v7, rfl, hf7, hd7, ho7⟩
  obtain ⟨g7, cap7, rfl, hg7, hg7', hrg7, _⟩ := owns_range ho7 (by decide)
  have hF7 : Fr [] w w7 := hF6.trans_new hf7 (by intro x hx; simp at hx; omega)
  have hp7 := lt_of_heap hd7.box; have hm7 := hd7.wai.lt
  have hl7 : l < w7.heap.size := by obtain ⟨lc, q1, _⟩ := hd7.las; exact lt_of_heap q1
  have hpg : p ≠ g7 ∧ l ≠ g7 ∧ m6 ≠ g7 := by omega
  clear hp6 hm6w hl6
  clear hf7 hF6 HR7 ho7
  go_wp2_with fail
  refine (bytes_calls w7 3 64 (by decide) (by decide)).mono ?_
  rintro e w8 ⟨rfl, hf8⟩
  have hd8 := hd7.keep hf8 (by simp) (by simp) (by simp)
  have hrg8 := range_keep hrg7 hf8 (by simp)
  have hF8 := hF7.trans hf8
  clear hd7 hrg7 hF7
  go_wp2_with (first
    | (refine wL_toBytes (o := ⟨some 33, .convert _ _ _, _, _, _, _⟩) rfl _ _ 5 _ rfl Try.underlying9 Try.underlying28 Try.underlying5 (bys 3 64) 64 (bys_length _ _) rfl ?_)
    | fail)
  intro cap9 w9 hf9 hs9 hr9
  have hd9 := hd8.keep hf9 (by simp) (by simp) (by simp)
  have hrg9 := range_keep hrg8 hf9 (by simp)
  have hF9 := hF8.trans hf9
  have hz8 := hf8.size
  clear hd8 hrg8 hF8
  go_wp2_with fail
  refine (write_ok w9 p l m6 2 2 (0 + 1 + 1) (-1) _ _ hd9 (by decide) (by decide) (by decide) 1 (by decide) w8.heap.size 0 cap9 (bys 3 64) (bys_length _ _) hr9 (by omega)).mono ?_
  rintro e w10 ⟨rfl, hf10, hd10⟩
  rw [show burnF (-1) = -1 from rfl] at hd10
  have hF10 : Fr [] w w10 := hF9.trans_new hf10 (by intro x hx; simp at hx; omega)
  have hrg10 := range_keep hrg9 hf10 (by simp; omega)
  have hz9 := hf9.size; have hz10 := hf10.size
  clear hd9 hrg9 hF9 hf10 hr9 hs9
  have hd11 := hd10.keep ((Fr.refl [] w10).alloc (.cells #[.int .i64 0] 3)) (by simp) (by simp) (by simp)
  have hrg11 := range_keep hrg10 ((Fr.refl [] w10).alloc (.cells #[.int .i64 0] 3)) (by simp)
  have hi11 : IntsAt (w10.alloc (.cells #[.int .i64 0] 3)) (some ⟨w10.heap.size, 0, none⟩) 1 [0] := by
    refine ⟨by simp, fun _ => ⟨_, _, rfl, fun i hi => ?_⟩⟩
    obtain rfl : i = 0 := by omega
    rw [box_cell (heap_alloc_new _ _)]; rfl
  clear hd10 hrg10
  go_wp2_with fail
  refine (crash_calls _ p l m6 2 2 (0 + 1 + 1 + 1) (-1) false _ _ hd11 true (some ⟨w10.heap.size, 0, none⟩) 1 1 [0] hi11 (by decide) (fun _ => by simp; omega)).mono ?_
  rintro e w12 ⟨rfl, hf12, m12, hm12, hd12⟩
  have hrg12 := range_keep hrg11 hf12 (by simp; omega)
  have hF12 : Fr [] w w12 := (hF10.alloc _).trans_new hf12 (by intro x hx; simp at hx; omega)
  have hm12' : w.heap.size ≤ m12 ∧ m12 ≠ g7 := by
    rcases hm12 with rfl | h
    · exact ⟨hm6', hpg.2.2⟩
    · simp at h; omega
  have hz12 := hf12.size
  simp at hz12
  clear hd11 hrg11 hi11 hf12 hF10 hm12
  have hr13 := read_ok w12 p l m12 2 2 (0 + 1 + 1 + 1) (-1) _ _ hd12 (by decide) 1 (by decide)
  have hsn : secNow (fun i : Nat => ((if true = true then without (wrote (fun _ => none) 1 (bys 3 64)) [0] 1 else among (wrote (fun _ => none) 1 (bys 3 64)) [0] 1) (i : Int)).getD zeros) (fun _ => none) 1 = bys 3 64 := by
    simp [secNow, without, wrote]
  rw [hsn] at hr13
  have HR13 := Lib.hid hr13; clear hr13 hd12 hsn
  go_wp2_with fail
  refine HR13.out.mono ?_
  rintro e w13 ⟨v13, rfl, hf13, hd13, ho13⟩
  obtain ⟨g13, cap13, rfl, hg13, hg13', hrg13, _⟩ := owns_range ho13 (by decide)
  have hrg14 := range_keep hrg12 hf13 (by simp; omega)
  have hF13 : Fr [] w w13 := hF12.trans_new hf13 (by intro x hx; simp at hx; omega)
  clear hf13 hF12 HR13 ho13 hrg12
  go_wp2_with fail
  have cS1 : ∀ d os, (convert 28 9 (.slice (some ⟨g7, 0, none⟩) 64 cap7)).run Try.prog (Go.Sort.grow (redrawn w13 d) os) = .ok (.string ⟨zeros.toArray⟩) (Go.Sort.grow (redrawn w13 d) os) := fun d os =>
    run_toString Try.underlying28 Try.underlying5 Try.underlying9 g7 0 cap7 zeros 64 (by simp [zeros]) (fun j v hv => cell_regrown (hrg14 j v hv) d os)
  have cS2 : ∀ d os, (convert 28 9 (.slice (some ⟨g13, 0, none⟩) 64 cap13)).run Try.prog (Go.Sort.grow (redrawn w13 d) os) = .ok (.string ⟨(bys 3 64).toArray⟩) (Go.Sort.grow (redrawn w13 d) os) := fun d os =>
    run_toString Try.underlying28 Try.underlying5 Try.underlying9 g13 0 cap13 (bys 3 64) 64 (bys_length _ _) (fun j v hv => cell_regrown (hrg13 j v hv) d os)
  have below_of : ∀ {a b : World}, Fr [] a b → Below a.heap.size a b := fun h => h.below (Nat.le_refl _) (by simp)
  have cZ : ∀ d os, Calls Try.prog 25 #[] (Go.Sort.grow (redrawn w13 d) os) fun e w'' => e = .returned (.string ⟨zeros.toArray⟩) ∧ ∃ p : Regrown, w'' = Go.Sort.grow (redrawn w13 p.d) p.os := fun d os => Calls.regrown_of ((zero_calls _).mono fun e w' ⟨h1, h2⟩ => ⟨h1, below_of h2⟩)
  have cB : ∀ d os, Calls Try.prog 13 #[.int .i64 3, .int .i64 64] (Go.Sort.grow (redrawn w13 d) os) fun e w'' => e = .returned (.string ⟨(bys 3 64).toArray⟩) ∧ ∃ p : Regrown, w'' = Go.Sort.grow (redrawn w13 p.d) p.os := fun d os => Calls.regrown_of ((bytes_calls _ 3 64 (by decide) (by decide)).mono fun e w' ⟨h1, h2⟩ => ⟨h1, below_of h2⟩)
  have cN : ∀ d os, Calls Try.prog 30 #[.pointer (some ⟨p, 0, none⟩)] (Go.Sort.grow (redrawn w13 d) os) fun e w'' => e = .returned (.int .i64 2) ∧ ∃ p : Regrown, w'' = Go.Sort.grow (redrawn w13 p.d) p.os := fun d os => by
    have hb := below_regrown w13 d os
    have hdd : DevAt (Go.Sort.grow (redrawn w13 d) os) p l m12 2 2 (0 + 1 + 1 + 1 + 1) (-1) false _ _ := hd13.keep (r := []) ⟨hb.os, hb.tape, hb.output, hb.size, fun k hk _ => hb.block k hk⟩ (by simp) (by simp) (by simp)
    exact (size_calls _ p l m12 2 2 _ _ _ _ _ hdd).mono fun e w' ⟨h1, h2⟩ => ⟨h1, ⟨d, os⟩, h2.symm⟩
  refine wp_region_quiet_below (by kernel_rfl) (by kernel_rfl) ?_
  repeat (quiet_step (first | exact cZ _ _ | exact cB _ _ | exact cN _ _))
  refine wpQuiet_nil ?_
  intro _ hw'
  obtain ⟨⟨dq, osq⟩, hw''⟩ := hw'
  subst hw''
  go_wp2
  go_ret
  have hb := below_regrown w13 dq osq
  exact ⟨rfl, hF13.trans ⟨hb.os, hb.tape, hb.output, hb.size, fun k hk _ => hb.block k hk⟩⟩
end Go.Proofs.Ythjoakgcmelhmaa
