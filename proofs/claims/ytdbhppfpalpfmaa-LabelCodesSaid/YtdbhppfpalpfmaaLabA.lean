/-
  What the document fixes of labels.
-/
import Derived.Test.YtdbhppfpalpfmaaLabH
namespace Go.Proofs.Ytdbhppfpalpfmaa
open Go.RowKit Go.MapKept
/-- Ints that were laid just now. -/
theorem new_rdI (w : World) (T : TypeId) (zs : List Int) (h : zs.length ≤ 1000) : RdI (w.alloc (.cells (zs.map (Value.int .i64)).toArray T)) (some ⟨w.heap.size, 0, none⟩) zs.length zs :=
  ⟨Nat.le_refl _, by omega, by omega, (fun e => by cases e), fun a ha _ => by
    cases ha
    refine ⟨_, 0, rfl, fun j hj => ?_⟩
    rw [Nat.zero_add, box_cell (heap_alloc_last _ _)]
    simp [hj]⟩
theorem nil_rdI (w : World) : RdI w none 0 [] := RdI.empty none 0 (by omega)
set_option maxRecDepth 100000 in
set_option maxHeartbeats 2000000 in
theorem awake_calls (w : World) : Calls Try.prog 11 #[] w fun e w' => e = .returned (.bool true) ∧ Fr [] w w' := by
  have h1 := new_rdI w 3 [1, 3] (by decide)
  have h2 := new_rdI (w.alloc (.cells #[.int .i64 1, .int .i64 3] 3)) 3 [2, 3] (by decide)
  have hj := join_sets _ _ _ _ _ [1, 3] [2, 3] (h1.keep ((Fr.refl [] _).alloc _)) h2 (by decide) (by decide) true (by decide)
  have hF : Fr [] w ((w.alloc (.cells #[.int .i64 1, .int .i64 3] 3)).alloc (.cells #[.int .i64 2, .int .i64 3] 3)) := ((Fr.refl [] w).alloc _).alloc _
  rw [show joinB [1, 3] [2, 3] = [1, 2, 3] by decide] at hj
  simp only [List.map_cons, List.map_nil, List.length_cons, List.length_nil, Nat.zero_add, Nat.reduceAdd, World.size_alloc] at hj
  have HJ := Lib.hid hj; have HF := Lib.hid hF
  clear h1 h2 hj hF
  go_enter Try.func11, Try.ntmps11
  go_wp2_with fail
  refine HJ.out.mono ?_
  rintro e w3 ⟨ad, cap, rfl, hr, hf⟩
  obtain ⟨b, off, rfl, hc⟩ : ∃ b off, ad = some ⟨b, off, none⟩ ∧ ∀ j, j < [1, 2, (3 : Int)].length → w3.cell? ⟨b, off + j, none⟩ = some (.int .i64 ([1, 2, (3 : Int)].getD j 0)) := by
    cases ad with
    | none => have := hr.nil rfl; simp at this
    | some a => obtain ⟨b, off, rfl, hc⟩ := hr.at_ a rfl (by simp); exact ⟨b, off, rfl, hc⟩
  have hc1 := hc 1 (by simp)
  have hbl : b < w3.heap.size := World.block_lt_of_cell? _ _ hc1
  have HF3 := Lib.hid (HF.out.trans hf)
  clear hr hf hc HJ HF
  obtain ⟨n, hn⟩ : ∃ n, w3.heap.size = n := ⟨_, rfl⟩
  have ra := new_rdI w3 3 [1] (by decide)
  have rb := new_rdI (w3.alloc (.cells #[.int .i64 1] 3)) 3 [1, 2] (by decide)
  simp only [List.map_cons, List.map_nil, List.length_cons, List.length_nil, Nat.zero_add, Nat.reduceAdd, World.size_alloc, hn] at ra rb
  have hf5 : ∀ x y, Fr [] ((w3.alloc (.cells #[.int .i64 1] 3)).alloc (.cells #[.int .i64 1, .int .i64 2] 3)) ((((w3.alloc (.cells #[.int .i64 1] 3)).alloc (.cells #[.int .i64 1, .int .i64 2] 3)).alloc x).alloc y) := fun x y => ((Fr.refl [] _).alloc x).alloc y
  obtain ⟨w5, hw5⟩ : ∃ w5, (w3.alloc (.cells #[.int .i64 1] 3)).alloc (.cells #[.int .i64 1, .int .i64 2] 3) = w5 := ⟨_, rfl⟩
  have hs5 : w5.heap.size = n + 1 + 1 := by rw [← hw5, ← hn]; simp
  have hf35 : Fr [] w3 w5 := by rw [← hw5]; exact ((Fr.refl [] w3).alloc _).alloc _
  rw [hw5] at rb hf5
  have ra' : RdI w5 (some ⟨n, 0, none⟩) 1 [1] := by rw [← hw5]; exact ra.keep ((Fr.refl [] _).alloc _)
  obtain ⟨w7, hw7⟩ : ∃ w7, (w5.alloc (.cells #[.slice (some ⟨n, 0, none⟩) 1 1, .slice none 0 0] 26)).alloc (.cells #[.slice (some ⟨n + 1, 0, none⟩) 2 2, .slice none 0 0] 26) = w7 := ⟨_, rfl⟩
  have hf57 : Fr [] w5 w7 := by rw [← hw7]; exact hf5 _ _
  have hbx : ∀ w', Fr [] w7 w' → w'.heap[n + 1 + 1]? = some (.cells #[.slice (some ⟨n, 0, none⟩) 1 1, .slice none 0 0] 26 (0, 0)) ∧ w'.heap[n + 1 + 1 + 1]? = some (.cells #[.slice (some ⟨n + 1, 0, none⟩) 2 2, .slice none 0 0] 26 (0, 0)) := fun w' hf => by
    have := two_boxes (by rw [hw7]; exact hf : Fr [] _ w')
    rwa [hs5] at this
  have hcs : ∀ w', Fr [] w7 w' → (w'.cell? ⟨n + 1 + 1, 0, none⟩ = some (.slice (some ⟨n, 0, none⟩) 1 1) ∧ w'.cell? ⟨n + 1 + 1, 1, none⟩ = some (.slice none 0 0)) ∧ (w'.cell? ⟨n + 1 + 1 + 1, 0, none⟩ = some (.slice (some ⟨n + 1, 0, none⟩) 2 2) ∧ w'.cell? ⟨n + 1 + 1 + 1, 1, none⟩ = some (.slice none 0 0)) := fun w' hf => by
    obtain ⟨hb1, hb2⟩ := hbx w' hf
    exact ⟨⟨by rw [box_cell hb1]; rfl, by rw [box_cell hb1]; rfl⟩, by rw [box_cell hb2]; rfl, by rw [box_cell hb2]; rfl⟩
  have hfl1 : ∀ w', Fr [] w7 w' → Calls Try.prog 27 #[.agg #[.slice (some ⟨n, 0, none⟩) 1 1, .slice none 0 0], .agg #[.slice (some ⟨n + 1, 0, none⟩) 2 2, .slice none 0 0]] w' (fun e w'' => e = .returned (.bool true) ∧ Fr [] w' w'') := fun w' hf =>
    flows_calls w' _ _ _ _ _ _ _ _ [1] [] [1, 2] [] ((ra'.keep hf57).keep hf) (nil_rdI _) ((rb.keep hf57).keep hf) (nil_rdI _)
  have hfl2 : ∀ w', Fr [] w7 w' → Calls Try.prog 27 #[.agg #[.slice (some ⟨n + 1, 0, none⟩) 2 2, .slice none 0 0], .agg #[.slice (some ⟨n, 0, none⟩) 1 1, .slice none 0 0]] w' (fun e w'' => e = .returned (.bool false) ∧ Fr [] w' w'') := fun w' hf =>
    flows_calls w' _ _ _ _ _ _ _ _ [1, 2] [] [1] [] ((rb.keep hf57).keep hf) (nil_rdI _) ((ra'.keep hf57).keep hf) (nil_rdI _)
  have hc7 : w7.cell? ⟨b, off + 1, none⟩ = some (.int .i64 2) := by
    rw [World.cell?_of_block (w := w3) ((hf35.trans hf57).block b (by omega) (by simp))]; exact hc1
  have HW7 : Hid ((((w3.alloc (.cells #[.int .i64 1] 3)).alloc (.cells #[.int .i64 1, .int .i64 2] 3)).alloc (.cells #[.slice (some ⟨w3.heap.size, 0, none⟩) 1 1, .slice none 0 0] 26)).alloc (.cells #[.slice (some ⟨w3.heap.size + 1, 0, none⟩) 2 2, .slice none 0 0] 26) = w7) := Lib.hid (by rw [hn, hw5]; exact hw7)
  have HN := Lib.hid hn; have HFL1 := Lib.hid hfl1; have HFL2 := Lib.hid hfl2; have HCS := Lib.hid hcs; have HF7 := Lib.hid ((HF3.out.trans hf35).trans hf57)
  clear hbx hcs hfl1 hfl2 hf57 hf35 hf5 ra rb ra' hs5 hw5 hw7 hn w5 HF3
  go_upto_region 3 with fail
  rw [HW7.out, HN.out]
  obtain ⟨⟨hk1, hk2⟩, hk3, hk4⟩ := HCS.out w7 (Fr.refl _ _)
  have hfl1 := HFL1.out w7 (Fr.refl _ _)
  clear hc1 hbl HFL1 HW7 HN
  go_wp2_with fail
  refine hfl1.mono ?_
  rintro e w8 ⟨rfl, hf8⟩
  obtain ⟨⟨hm1, hm2⟩, hm3, hm4⟩ := HCS.out w8 hf8
  have hfl2 := HFL2.out w8 hf8
  have HF8 := Lib.hid (HF7.out.trans hf8)
  clear hf8 hfl1 hk1 hk2 hk3 hk4 hc7 HFL2 HCS HF7
  go_wp2_with fail
  refine hfl2.mono ?_
  rintro e w9 ⟨rfl, hf9⟩
  have HF9 := Lib.hid (HF8.out.trans hf9)
  have r1 := new_rdI w9 3 [1] (by decide)
  have r2 := new_rdI (w9.alloc (.cells #[.int .i64 1] 3)) 3 [2] (by decide)
  have r3 := new_rdI ((w9.alloc (.cells #[.int .i64 1] 3)).alloc (.cells #[.int .i64 2] 3)) 3 [2] (by decide)
  have hsf := safe_calls _ _ _ _ _ _ _ _ _ [1] [2] [2] [] ((r1.keep ((Fr.refl [] _).alloc (.cells #[.int .i64 2] 3))).keep ((Fr.refl [] _).alloc (.cells #[.int .i64 2] 3))) (r2.keep ((Fr.refl [] _).alloc (.cells #[.int .i64 2] 3))) r3 (nil_rdI _)
  rw [show safeB [1] [2] [2] [] = false by decide] at hsf
  simp only [List.map_cons, List.map_nil, List.length_cons, List.length_nil, Nat.zero_add, Nat.reduceAdd, World.size_alloc] at hsf
  have hf10 : Fr [] w9 (((w9.alloc (.cells #[.int .i64 1] 3)).alloc (.cells #[.int .i64 2] 3)).alloc (.cells #[.int .i64 2] 3)) := (((Fr.refl [] w9).alloc _).alloc _).alloc _
  have HF10 := Lib.hid hf10; have HSF := Lib.hid hsf
  clear hf9 hfl2 hm1 hm2 hm3 hm4 HF8 r1 r2 r3 hf10 hsf
  go_wp2_with fail
  refine HSF.out.mono ?_
  rintro e w11 ⟨rfl, hf11⟩
  have HF11 := Lib.hid ((HF9.out.trans HF10.out).trans hf11)
  clear hf11 HF9 HF10 HSF
  go_wp2_with fail
  go_ret
  exact ⟨rfl, HF11.out⟩
end Go.Proofs.Ytdbhppfpalpfmaa
