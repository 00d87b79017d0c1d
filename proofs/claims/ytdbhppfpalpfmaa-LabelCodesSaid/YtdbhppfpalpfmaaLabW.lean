/-
  Sub, Low: whether all, whether none of one list is in another.
-/
import Derived.Test.YtdbhppfpalpfmaaLabU
namespace Go.Proofs.Ytdbhppfpalpfmaa
open Go.RowKit Go.Shelf
attribute [local go_sem] Oper.semAt_some
set_option maxRecDepth 100000 in
set_option maxHeartbeats 2000000 in
theorem sub_calls (w : World) (a1 a2 : Option Addr) (c1 c2 : Nat) (a b : List Int) (hr1 : RdI w a1 c1 a) (hr2 : RdI w a2 c2 b) :
    Calls Try.prog 20 #[.slice a1 a.length c1, .slice a2 b.length c2] w fun e w' => e = .returned (.bool (subB a b)) ∧ Fr [] w w' := by
  refine (callsIn_wide (n := 4)).1 ?_
  refine callsIn_of_wp_marks Try.func20 rfl trivial ?_ rfl
  simp only [Try.ntmps20, List.size_toArray, List.length_cons, List.length_nil, Nat.reduceAdd, Nat.reduceSub, Array.replicate_succ, Array.replicate_zero, List.push_toArray, List.append_toArray, List.nil_append, List.cons_append]
  have HR1 := Lib.hid hr1; have HR2 := Lib.hid hr2
  clear hr1 hr2
  obtain ⟨n1, hn1⟩ : ∃ n, a.length = n := ⟨_, rfl⟩
  obtain ⟨n2, hn2⟩ : ∃ n, b.length = n := ⟨_, rfl⟩
  rw [hn1, hn2]
  have HN1 := Lib.hid hn1; have HN2 := Lib.hid hn2
  clear hn1 hn2
  gi_wp2_with fail
  refine ⟨trivial, ?_⟩
  refine (callsIn_wide.2 (merged_calls _ a1 a2 n1 n2 c1 c2)).mono ?_
  rintro e w' ⟨rfl, rfl⟩
  gi_wp2_with fail
  have bR := Boxed.new w 4 (.bool false)
  have b0 : Below w.heap.size w (w.alloc (.cells #[.bool false] 4)) := (Below.refl _ w).alloc (Nat.le_refl _) _
  have b1 := Boxed.new (w.alloc (.cells #[.bool false] 4)) 22 (.slice a1 n1 c1)
  have b2 := Boxed.new ((w.alloc (.cells #[.bool false] 4)).alloc (.cells #[.slice a1 n1 c1] 22)) 22 (.slice a2 n2 c2)
  simp only [World.size_alloc] at b1 b2
  obtain ⟨W0, hW0⟩ : ∃ W0, ((w.alloc (.cells #[.bool false] 4)).alloc (.cells #[.slice a1 n1 c1] 22)).alloc (.cells #[.slice a2 n2 c2] 22) = W0 := ⟨_, rfl⟩
  have hs0 : W0.heap.size = w.heap.size + 3 := by rw [← hW0]; simp
  have bR0 : Boxed W0 (w.heap.size) 4 (.bool false) := by rw [← hW0]; exact (bR.alloc _).alloc _
  have hc1 : W0.cell? ⟨w.heap.size + 1, 0, none⟩ = some (.slice a1 a.length c1) := by rw [← hW0, HN1.out]; exact (b1.alloc _).cell
  have hc2 : W0.cell? ⟨w.heap.size + 1 + 1, 0, none⟩ = some (.slice a2 b.length c2) := by rw [← hW0, HN2.out]; exact b2.cell
  have hB0 : Below w.heap.size w W0 := by rw [← hW0]; exact (b0.alloc (by simp; try omega) _).alloc (by simp; try omega) _
  rw [hW0]
  have hst := merged_stopsB 3 (by omega) (w.heap.size + 1) (w.heap.size + 1 + 1) a1 a2 c1 c2 a b W0 hc1 hc2 (HR1.out.keep (Fr.of_below hB0)) (HR2.out.keep (Fr.of_below hB0))
  clear hW0 b1 b2 bR b0 hc1 hc2
  refine wpIn_rangeFunc_ownG rfl (by omega) (gf := 69) (lb := #[.pointer (some ⟨w.heap.size + 1, 0, none⟩), .pointer (some ⟨w.heap.size + 1 + 1, 0, none⟩)]) rfl trivial (enters_of Try.func69 (by kernel_rfl) rfl)
    hst CellsKept.t CellsKept.b (Below.refl _ _) (fun _ => rfl)
    (fun pre W => ((∀ p ∈ pre, p.2 ≠ 1) ∧ W.cell? ⟨w.heap.size, 0, none⟩ = some (.bool false) ∧ W.frozen? ⟨w.heap.size, 0, none⟩ = false) ∧ Below w.heap.size w W)
    (fun c pre W => (c = .ret ∧ (∃ t, (t, 1) ∈ pre) ∧ W.cell? ⟨w.heap.size, 0, none⟩ = some (.bool false)) ∧ Below w.heap.size w W)
    (OwnFrom.and (Own.from (fun s A B row hs hg hr => ⟨hs.1, cell_kept hs.2.1 hg hr, (frozen_kept hs.2.1 hg hr).trans hs.2.2⟩) _) (ownFrom_below (Nat.le_refl _) (by omega)))
    (fun c => OwnFrom.and (Own.from (fun s A B row hs hg hr => ⟨hs.1, hs.2.1, cell_kept hs.2.2 hg hr⟩) _) (ownFrom_below (Nat.le_refl _) (by omega)))
    ⟨⟨by simp, bR0.cell, bR0.frozen⟩, hB0⟩
    (fun x_ => { tmps := #[.slice a1 n1 c1, .slice a2 n2 c2, undef, undef, .pointer (some ⟨w.heap.size, 0, none⟩), undef, .int .i64 x_.2, .slice a1 n1 c1, .slice a2 n2 c2, .func (.func 69) #[] #[.pointer (some ⟨w.heap.size + 1, 0, none⟩), .pointer (some ⟨w.heap.size + 1 + 1, 0, none⟩)], .int .i64 x_.1, .int .i64 x_.2, undef, undef], defers := [] }) ?assign ?body ?done ?stop
  case assign =>
    intro l x W K hK
    simp only [enc2]
    gi_wp2
    exact hK
  case body =>
    rintro l pre x W ⟨⟨hp, hcr, hfr⟩, hB⟩ _
    obtain ⟨t, i⟩ := x
    by_cases hi : i = 1
    · subst hi
      gi_wp2
      exact ⟨(KeepsOthers.setCell _ _ _).from _, ⟨rfl, ⟨t, by simp⟩, World.cell?_setCell_same' _ _ _ (by rw [hcr]; rfl)⟩, hB.setCell (p := ⟨w.heap.size, 0, none⟩) (by simp; try omega) _⟩
    · have hi' : (i == 1) = false := by simpa using hi
      gi_wp2
      exact ⟨KeepsFrom.refl _ _, CellsKept.refl _, ⟨fun p hp' => (List.mem_append.1 hp').elim (hp p) (fun e => by simp at e; subst e; exact hi), hcr, hfr⟩, hB⟩
  case done =>
    rintro D ys W hD rfl ⟨⟨hne, hcr, hfr⟩, hB⟩ hK
    gi_wp2
    have hK' := (KeepsOthers.setCell W ⟨w.heap.size, 0, none⟩ (.bool true)).same D _ hK rfl
    refine ⟨by simp, .inl ⟨_, _, rfl, run_takeDeferred hK', ?_⟩⟩
    have hc5 := cell_kept (World.cell?_setCell_same' W ⟨w.heap.size, 0, none⟩ (.bool true) (by rw [hcr]; rfl)) (grownBy_putObj' _ D (.deferred none)) (fun r e => by cases e; exact ⟨_, hK', rfl⟩)
    refine ⟨.bool true, ?_, ret_bool (subB_yes (fun t ht => hne _ ht rfl)).symm, Fr.of_below ((hB.setCell (p := ⟨w.heap.size, 0, none⟩) (by simp; try omega) _).trans (belowK_b (w := w) (Nat.le_refl _) _ D _ _ (by omega) hK' rfl rfl))⟩
    simp [results, Try.f20, go_sem, hc5]
  case stop =>
    rintro D c pre W hD hpre ⟨⟨rfl, ⟨t, ht⟩, hcr⟩, hB⟩ hK
    gi_wp2
    refine ⟨by simp, .inl ⟨_, _, rfl, run_takeDeferred hK, ?_⟩⟩
    have hc5 := cell_kept hcr (grownBy_putObj' _ D (.deferred none)) (fun r e => by cases e; exact ⟨_, hK, rfl⟩)
    refine ⟨.bool false, ?_, ret_bool (subB_no (hpre.subset ht)).symm, Fr.of_below (hB.trans (belowK_b (w := w) (Nat.le_refl _) W D _ _ (by omega) hK rfl rfl))⟩
    simp [results, Try.f20, go_sem, hc5]
set_option maxRecDepth 100000 in
set_option maxHeartbeats 2000000 in
theorem low_calls (w : World) (a1 a2 : Option Addr) (c1 c2 : Nat) (a b : List Int) (x : Value) (hx : x.oneCell' = true) (hr1 : RdI w a1 c1 a) (hr2 : RdI w a2 c2 b) :
    Calls Try.prog 38 #[.agg #[.slice a1 a.length c1, x], .slice a2 b.length c2] w fun e w' => e = .returned (.bool (lowB a b)) ∧ Fr [] w w' := by
  refine (callsIn_wide (n := 4)).1 ?_
  refine callsIn_of_wp_marks Try.func38 rfl trivial ?_ rfl
  simp only [Try.ntmps38, List.size_toArray, List.length_cons, List.length_nil, Nat.reduceAdd, Nat.reduceSub, Array.replicate_succ, Array.replicate_zero, List.push_toArray, List.append_toArray, List.nil_append, List.cons_append]
  have HR1 := Lib.hid hr1; have HR2 := Lib.hid hr2
  clear hr1 hr2
  obtain ⟨n1, hn1⟩ : ∃ n, a.length = n := ⟨_, rfl⟩
  obtain ⟨n2, hn2⟩ : ∃ n, b.length = n := ⟨_, rfl⟩
  rw [hn1, hn2]
  have HN1 := Lib.hid hn1; have HN2 := Lib.hid hn2
  clear hn1 hn2
  gi_wp2_with fail
  refine ⟨trivial, ?_⟩
  refine (callsIn_wide.2 (merged_calls _ a1 a2 n1 n2 c1 c2)).mono ?_
  rintro e w' ⟨rfl, rfl⟩
  gi_wp2_with fail
  have bR := Boxed.new (w.alloc (.cells #[.slice a1 n1 c1, x] 26)) 4 (.bool false)
  rw [World.size_alloc] at bR
  have b0 : Below w.heap.size w ((w.alloc (.cells #[.slice a1 n1 c1, x] 26)).alloc (.cells #[.bool false] 4)) := ((Below.refl _ w).alloc (Nat.le_refl _) _).alloc (by simp) _
  have b1 := Boxed.new ((w.alloc (.cells #[.slice a1 n1 c1, x] 26)).alloc (.cells #[.bool false] 4)) 22 (.slice a1 n1 c1)
  have b2 := Boxed.new (((w.alloc (.cells #[.slice a1 n1 c1, x] 26)).alloc (.cells #[.bool false] 4)).alloc (.cells #[.slice a1 n1 c1] 22)) 22 (.slice a2 n2 c2)
  simp only [World.size_alloc] at b1 b2
  obtain ⟨W0, hW0⟩ : ∃ W0, (((w.alloc (.cells #[.slice a1 n1 c1, x] 26)).alloc (.cells #[.bool false] 4)).alloc (.cells #[.slice a1 n1 c1] 22)).alloc (.cells #[.slice a2 n2 c2] 22) = W0 := ⟨_, rfl⟩
  have hs0 : W0.heap.size = w.heap.size + 4 := by rw [← hW0]; simp
  have bR0 : Boxed W0 (w.heap.size + 1) 4 (.bool false) := by rw [← hW0]; exact (bR.alloc _).alloc _
  have hc1 : W0.cell? ⟨w.heap.size + 1 + 1, 0, none⟩ = some (.slice a1 a.length c1) := by rw [← hW0, HN1.out]; exact (b1.alloc _).cell
  have hc2 : W0.cell? ⟨w.heap.size + 1 + 1 + 1, 0, none⟩ = some (.slice a2 b.length c2) := by rw [← hW0, HN2.out]; exact b2.cell
  have hB0 : Below w.heap.size w W0 := by rw [← hW0]; exact (b0.alloc (by simp; try omega) _).alloc (by simp; try omega) _
  rw [hW0]
  have hst := merged_stopsB 3 (by omega) (w.heap.size + 1 + 1) (w.heap.size + 1 + 1 + 1) a1 a2 c1 c2 a b W0 hc1 hc2 (HR1.out.keep (Fr.of_below hB0)) (HR2.out.keep (Fr.of_below hB0))
  clear hW0 b1 b2 bR b0 hc1 hc2
  refine wpIn_rangeFunc_ownG rfl (by omega) (gf := 69) (lb := #[.pointer (some ⟨w.heap.size + 1 + 1, 0, none⟩), .pointer (some ⟨w.heap.size + 1 + 1 + 1, 0, none⟩)]) rfl trivial (enters_of Try.func69 (by kernel_rfl) rfl)
    hst CellsKept.t CellsKept.b (Below.refl _ _) (fun _ => rfl)
    (fun pre W => ((∀ p ∈ pre, p.2 ≠ 3) ∧ W.cell? ⟨w.heap.size + 1, 0, none⟩ = some (.bool false) ∧ W.frozen? ⟨w.heap.size + 1, 0, none⟩ = false) ∧ Below w.heap.size w W)
    (fun c pre W => (c = .ret ∧ (∃ t, (t, 3) ∈ pre) ∧ W.cell? ⟨w.heap.size + 1, 0, none⟩ = some (.bool false)) ∧ Below w.heap.size w W)
    (OwnFrom.and (Own.from (fun s A B row hs hg hr => ⟨hs.1, cell_kept hs.2.1 hg hr, (frozen_kept hs.2.1 hg hr).trans hs.2.2⟩) _) (ownFrom_below (Nat.le_refl _) (by omega)))
    (fun c => OwnFrom.and (Own.from (fun s A B row hs hg hr => ⟨hs.1, hs.2.1, cell_kept hs.2.2 hg hr⟩) _) (ownFrom_below (Nat.le_refl _) (by omega)))
    ⟨⟨by simp, bR0.cell, bR0.frozen⟩, hB0⟩
    (fun x_ => { tmps := #[.agg #[.slice a1 n1 c1, x], .slice a2 n2 c2, .pointer (some ⟨w.heap.size, 0, none⟩), undef, .pointer (some ⟨w.heap.size + 1, 0, none⟩), undef, .int .i64 x_.2, .pointer (some ⟨w.heap.size, 0, none⟩), .slice a1 n1 c1, .slice a2 n2 c2, .func (.func 69) #[] #[.pointer (some ⟨w.heap.size + 1 + 1, 0, none⟩), .pointer (some ⟨w.heap.size + 1 + 1 + 1, 0, none⟩)], .int .i64 x_.1, .int .i64 x_.2, undef, undef], defers := [] }) ?assign ?body ?done ?stop
  case assign =>
    intro l x W K hK
    simp only [enc2]
    gi_wp2
    exact hK
  case body =>
    rintro l pre x W ⟨⟨hp, hcr, hfr⟩, hB⟩ _
    obtain ⟨t, i⟩ := x
    by_cases hi : i = 3
    · subst hi
      gi_wp2
      exact ⟨(KeepsOthers.setCell _ _ _).from _, ⟨rfl, ⟨t, by simp⟩, World.cell?_setCell_same' _ _ _ (by rw [hcr]; rfl)⟩, hB.setCell (p := ⟨w.heap.size + 1, 0, none⟩) (by simp; try omega) _⟩
    · have hi' : (i == 3) = false := by simpa using hi
      gi_wp2
      exact ⟨KeepsFrom.refl _ _, CellsKept.refl _, ⟨fun p hp' => (List.mem_append.1 hp').elim (hp p) (fun e => by simp at e; subst e; exact hi), hcr, hfr⟩, hB⟩
  case done =>
    rintro D ys W hD rfl ⟨⟨hne, hcr, hfr⟩, hB⟩ hK
    gi_wp2
    have hK' := (KeepsOthers.setCell W ⟨w.heap.size + 1, 0, none⟩ (.bool true)).same D _ hK rfl
    refine ⟨by simp, .inl ⟨_, _, rfl, run_takeDeferred hK', ?_⟩⟩
    have hc5 := cell_kept (World.cell?_setCell_same' W ⟨w.heap.size + 1, 0, none⟩ (.bool true) (by rw [hcr]; rfl)) (grownBy_putObj' _ D (.deferred none)) (fun r e => by cases e; exact ⟨_, hK', rfl⟩)
    refine ⟨.bool true, ?_, ret_bool (lowB_yes (fun t ht => hne _ ht rfl)).symm, Fr.of_below ((hB.setCell (p := ⟨w.heap.size + 1, 0, none⟩) (by simp; try omega) _).trans (belowK_b (w := w) (Nat.le_refl _) _ D _ _ (by omega) hK' rfl rfl))⟩
    simp [results, Try.f38, go_sem, hc5]
  case stop =>
    rintro D c pre W hD hpre ⟨⟨rfl, ⟨t, ht⟩, hcr⟩, hB⟩ hK
    gi_wp2
    refine ⟨by simp, .inl ⟨_, _, rfl, run_takeDeferred hK, ?_⟩⟩
    have hc5 := cell_kept hcr (grownBy_putObj' _ D (.deferred none)) (fun r e => by cases e; exact ⟨_, hK, rfl⟩)
    refine ⟨.bool false, ?_, ret_bool (lowB_no (hpre.subset ht)).symm, Fr.of_below (hB.trans (belowK_b (w := w) (Nat.le_refl _) W D _ _ (by omega) hK rfl rfl))⟩
    simp [results, Try.f38, go_sem, hc5]
end Go.Proofs.Ytdbhppfpalpfmaa
