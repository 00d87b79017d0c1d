/-
  gather: what of two rising lists is wanted, in order.
-/
import Derived.Test.YtdbhppfpalpfmaaLabU
namespace Go.Proofs.Ytdbhppfpalpfmaa
open Go.RowKit Go.Shelf
attribute [local go_sem] Oper.semAt_some
theorem ownsRow_lower {w : World} {B B' : Nat} {T : TypeId} {z : Nat} {v : Value} {n : Nat} {xs : List Value} (h : w.ownsRow B T z v n xs) (hb : B' ≤ B) : w.ownsRow B' T z v n xs := by
  refine ⟨h.1, ?_⟩
  rcases h.2 with h0 | ⟨g, cap, cur, e, h1, r⟩
  · exact .inl h0
  · exact .inr ⟨g, cap, cur, e, Nat.le_trans hb h1, r⟩
set_option maxHeartbeats 400000 in
theorem gatherJ_want (w : World) (i : Int) : Calls Try.prog 51 #[.int .i64 i] w fun e w' => e = .returned (.bool true) ∧ w = w' := by
  go_enter Try.func51, Try.ntmps51
  go_wp2
  go_ret
  exact ⟨rfl, rfl⟩
set_option maxRecDepth 100000 in
set_option maxHeartbeats 4000000 in
theorem gatherJ_calls (w : World) (a1 a2 : Option Addr) (c1 c2 : Nat) (a b : List Int) (hr1 : RdI w a1 c1 a) (hr2 : RdI w a2 c2 b) (ha : asc a) (hb : asc b) (hla : a.length ≤ 16) (hlb : b.length ≤ 16) :
    Calls Try.prog 50 #[.slice a1 a.length c1, .slice a2 b.length c2, .func (.func 51) #[] #[]] w fun e w' => ∃ v, e = .returned v ∧ w'.ownsRow w.heap.size 3 1 v ((mg a b).map fun p : Int × Int => p.1).length (((mg a b).map fun p : Int × Int => p.1).map (Value.int .i64)) ∧ Fr [] w w' := by
  obtain ⟨i0, hi, hz0, hz1, hz2⟩ := info_parts (show (Try.prog.info? 3).map (fun i => (i.zero, i.size, i.bytes)) = some (some (.int .i64 0), 1, 8) by kernel_rfl)
  refine (callsIn_wide (n := 4)).1 ?_
  refine callsIn_of_wp_marks Try.func50 rfl trivial ?_ rfl
  simp only [Try.ntmps50, List.size_toArray, List.length_cons, List.length_nil, Nat.reduceAdd, Nat.reduceSub, Array.replicate_succ, Array.replicate_zero, List.push_toArray, List.append_toArray, List.nil_append, List.cons_append]
  have HR1 := Lib.hid hr1; have HR2 := Lib.hid hr2; have HA := Lib.hid ha; have HB := Lib.hid hb
  have HLE : Hid (∀ k, k < a.length + b.length → k ≤ 32) := Lib.hid (fun k hk => by omega)
  clear hr1 hr2 ha hb hla hlb
  obtain ⟨n1, hn1⟩ : ∃ n, a.length = n := ⟨_, rfl⟩
  obtain ⟨n2, hn2⟩ : ∃ n, b.length = n := ⟨_, rfl⟩
  rw [hn1, hn2]
  have HN1 := Lib.hid hn1; have HN2 := Lib.hid hn2
  clear hn1 hn2
  gi_wp2_with fail
  refine ⟨trivial, ?_⟩
  refine (callsIn_wide.2 (merged_calls _ a1 a2 n1 n2 c1 c2)).mono ?_
  rintro e w' ⟨rfl, rfl⟩
  gi_wp2_with fail
  have bF := Boxed.new w 69 (.func (.func 51) #[] #[])
  have b1 : Below (w.heap.size + 1) (w.alloc (.cells #[.func (.func 51) #[] #[]] 69)) ((w.alloc (.cells #[.func (.func 51) #[] #[]] 69)).alloc (.cells #[.slice none 0 0] 22)) := (Below.refl _ _).alloc (by simp) _
  have bO := Boxed.new (w.alloc (.cells #[.func (.func 51) #[] #[]] 69)) 22 (.slice none 0 0)
  have bA := Boxed.new ((w.alloc (.cells #[.func (.func 51) #[] #[]] 69)).alloc (.cells #[.slice none 0 0] 22)) 22 (.slice a1 n1 c1)
  have bB := Boxed.new (((w.alloc (.cells #[.func (.func 51) #[] #[]] 69)).alloc (.cells #[.slice none 0 0] 22)).alloc (.cells #[.slice a1 n1 c1] 22)) 22 (.slice a2 n2 c2)
  simp only [World.size_alloc] at bO bA bB
  obtain ⟨w1, hw1⟩ : ∃ w1, w.alloc (.cells #[.func (.func 51) #[] #[]] 69) = w1 := ⟨_, rfl⟩
  have hs1 : w1.heap.size = w.heap.size + 1 := by rw [← hw1]; simp
  have hbw : Fr [] w w1 := by rw [← hw1]; exact (Fr.refl [] w).alloc _
  have hcF : w1.cell? ⟨w.heap.size, 0, none⟩ = some (.func (.func 51) #[] #[]) := by rw [← hw1]; exact bF.cell
  rw [hw1] at b1 bO bA bB ⊢
  obtain ⟨W0, hW0⟩ : ∃ W0, ((w1.alloc (.cells #[.slice none 0 0] 22)).alloc (.cells #[.slice a1 n1 c1] 22)).alloc (.cells #[.slice a2 n2 c2] 22) = W0 := ⟨_, rfl⟩
  have hs0 : W0.heap.size = w.heap.size + 4 := by rw [← hW0]; simp [hs1]
  have bO0 : Boxed W0 (w.heap.size + 1) 22 (.slice none 0 0) := by rw [← hW0]; exact (bO.alloc _).alloc _
  have hc1 : W0.cell? ⟨w.heap.size + 1 + 1, 0, none⟩ = some (.slice a1 a.length c1) := by rw [← hW0, HN1.out]; exact (bA.alloc _).cell
  have hc2 : W0.cell? ⟨w.heap.size + 1 + 1 + 1, 0, none⟩ = some (.slice a2 b.length c2) := by rw [← hW0, HN2.out]; exact bB.cell
  have hB0 : Below (w.heap.size + 1) w1 W0 := by rw [← hW0]; exact (b1.alloc (by simp; try omega) _).alloc (by simp; try omega) _
  rw [hW0]
  have hlt1 : ∀ b off, a1 = some ⟨b, off, none⟩ → 0 < a.length → b < w.heap.size + 1 := fun b off e hl => by have h1 := HR1.out; rw [e] at h1; have := h1.lt hl; omega
  have hlt2 : ∀ b' off, a2 = some ⟨b', off, none⟩ → 0 < b.length → b' < w.heap.size + 1 := fun b' off e hl => by have h1 := HR2.out; rw [e] at h1; have := h1.lt hl; omega
  have hf0 : Fr [] w W0 := hbw.trans (Fr.of_below (by rw [hs1]; exact hB0))
  have hst := merged_stopsA 3 (by omega) (w.heap.size + 1) (w.heap.size + 1 + 1) (w.heap.size + 1 + 1 + 1) a1 a2 c1 c2 a b W0 hc1 hc2 (HR1.out.keep hf0) (HR2.out.keep hf0) hlt1 hlt2 HA.out HB.out
  clear hW0 bA bB bO bF b1 hc1 hc2 hlt1 hlt2 hw1 hf0
  refine wpIn_rangeFunc_ownG rfl (by omega) (gf := 69) (lb := #[.pointer (some ⟨w.heap.size + 1 + 1, 0, none⟩), .pointer (some ⟨w.heap.size + 1 + 1 + 1, 0, none⟩)]) rfl trivial (enters_of Try.func69 (by kernel_rfl) rfl)
    hst belowK_t (belowK_b (by omega)) (Below.refl _ _) (fun _ => rfl)
    (fun pre W => (∃ v, Boxed W (w.heap.size + 1) 22 v ∧ W.ownsRow (w.heap.size + 1) 3 1 v ((pre).map fun p : Int × Int => p.1).length (((pre).map fun p : Int × Int => p.1).map (Value.int .i64)) ∧ True) ∧ Below (w.heap.size + 1) w1 W)
    (fun _ _ _ => False)
    (OwnFrom.and (Own.from (holdsRow_own (w.heap.size + 1) (w.heap.size + 1) 22 3 1 (fun pre : List (Int × Int) => ((pre).map fun p : Int × Int => p.1).length) (fun pre => ((pre).map fun p : Int × Int => p.1).map (Value.int .i64)) (fun pre v => True)) _) (ownFrom_below (by omega) (by omega)))
    (fun _ _ _ _ _ hs _ _ => hs)
    ⟨⟨_, bO0, by simpa using World.ownsRow_nil _ _ _ _, trivial⟩, hB0⟩
    (fun x_ => { tmps := #[.slice a1 n1 c1, .slice a2 n2 c2, .func (.func 51) #[] #[], undef, undef, .pointer (some ⟨w.heap.size, 0, none⟩), .slice none 0 0, .pointer (some ⟨w.heap.size + 1, 0, none⟩), .int .i64 x_.1, .int .i64 x_.2, .slice a1 n1 c1, .slice a2 n2 c2, .func (.func 69) #[] #[.pointer (some ⟨w.heap.size + 1 + 1, 0, none⟩), .pointer (some ⟨w.heap.size + 1 + 1 + 1, 0, none⟩)], .int .i64 x_.1, .int .i64 x_.2, undef, undef, undef, undef, undef, undef, undef, undef], defers := [] }) ?assign ?body ?done ?stop
  case assign =>
    intro l x W K hK
    simp only [enc2]
    gi_wp2
    exact hK
  case body =>
    rintro l pre x W ⟨⟨v, hv, hrow, _⟩, hB⟩ hlt
    obtain ⟨t, i⟩ := x
    have hc := hv.cell
    have hcf : W.cell? ⟨w.heap.size, 0, none⟩ = some (.func (.func 51) #[] #[]) := (hB.cell (p := ⟨w.heap.size, 0, none⟩) (by simp)).trans hcF
    have hpl : ((pre).map fun p : Int × Int => p.1).length ≤ pre.length := by simp
    have hsn : ((pre ++ [(t, i)]).map fun p : Int × Int => p.1) = ((pre).map fun p : Int × Int => p.1) ++ [t] := by simp
    have hw := gatherJ_want W i
    have hle := HLE.out _ hlt
    have HSN := Lib.hid hsn
    clear hsn
    generalize ((pre).map fun p : Int × Int => p.1) = fp at *
    gi_wp2_with (first
        | (refine ⟨trivial, ?_⟩; gi_at_call 51; refine (CallsIn.inRound l (callsIn_wide.2 hw)).mono ?_; rintro e w' ⟨rfl, rfl⟩)
        | (gi_at_builtin; refine wpListIn_append_own _ rfl _ _ 22 rfl (w.heap.size + 1) 3 i0 (.int .i64 0) 1 8 Try.underlying22 hi hz0 hz1 hz2 rfl (by decide) _ _ _ rfl (hrow.alloc _) ⟨W.heap.size, 0, none⟩ 1 1 [.int .i64 t] rfl rfl (cell_one_new _ _ _) (by simp [Value.oneCell']) (by unfold maxLen; omega) (by omega) (by have := hB.size; simp; omega) ?_; intro v' w1 hown' hgrow _; obtain ⟨g', cap', rfl⟩ := ownsRow_succ hown'; obtain ⟨hv1, hv2, hr2, hk2, hb2⟩ := hv.appended (by decide) hrow (by have := hB.size; omega) (Nat.le_refl _) hown' hgrow; have hc1 := hv1.cell; have hf1 := hv1.frozen))
    exact ⟨hk2.from _, hb2, ⟨_, hv2, by rw [HSN.out]; simpa using hr2, trivial⟩, hB.trans hb2⟩
  case done =>
    rintro D ys W hD rfl ⟨⟨v, hv, hrow, _⟩, hB⟩ hK
    have hc := hv.cell
    have hkb := belowK_b (n₀ := w.heap.size + 1) (w := W0) (by omega) W D _ (.deferred none) hD hK rfl rfl
    gi_wp2
    refine ⟨by simp, .inl ⟨_, _, rfl, run_takeDeferred hK, ?_⟩⟩
    exact ⟨_, results_tmp rfl _ _ _, v, rfl, ownsRow_lower (ownsRow_putObj hrow _ hK rfl) (Nat.le_succ _), hbw.trans (Fr.of_below (by rw [hs1]; exact hB.trans hkb))⟩
  case stop =>
    rintro D c pre W _ _ h _
    exact h.elim
set_option maxHeartbeats 400000 in
theorem gatherM_want (w : World) (i : Int) : Calls Try.prog 52 #[.int .i64 i] w fun e w' => e = .returned (.bool (i == 3)) ∧ w = w' := by
  go_enter Try.func52, Try.ntmps52
  go_wp2
  go_ret
  exact ⟨ret_bool (by simp), rfl⟩
set_option maxRecDepth 100000 in
set_option maxHeartbeats 4000000 in
theorem gatherM_calls (w : World) (a1 a2 : Option Addr) (c1 c2 : Nat) (a b : List Int) (hr1 : RdI w a1 c1 a) (hr2 : RdI w a2 c2 b) (ha : asc a) (hb : asc b) (hla : a.length ≤ 16) (hlb : b.length ≤ 16) :
    Calls Try.prog 50 #[.slice a1 a.length c1, .slice a2 b.length c2, .func (.func 52) #[] #[]] w fun e w' => ∃ v, e = .returned v ∧ w'.ownsRow w.heap.size 3 1 v (((mg a b).filter fun p : Int × Int => p.2 == 3).map fun p : Int × Int => p.1).length ((((mg a b).filter fun p : Int × Int => p.2 == 3).map fun p : Int × Int => p.1).map (Value.int .i64)) ∧ Fr [] w w' := by
  obtain ⟨i0, hi, hz0, hz1, hz2⟩ := info_parts (show (Try.prog.info? 3).map (fun i => (i.zero, i.size, i.bytes)) = some (some (.int .i64 0), 1, 8) by kernel_rfl)
  refine (callsIn_wide (n := 4)).1 ?_
  refine callsIn_of_wp_marks Try.func50 rfl trivial ?_ rfl
  simp only [Try.ntmps50, List.size_toArray, List.length_cons, List.length_nil, Nat.reduceAdd, Nat.reduceSub, Array.replicate_succ, Array.replicate_zero, List.push_toArray, List.append_toArray, List.nil_append, List.cons_append]
  have HR1 := Lib.hid hr1; have HR2 := Lib.hid hr2; have HA := Lib.hid ha; have HB := Lib.hid hb
  have HLE : Hid (∀ k, k < a.length + b.length → k ≤ 32) := Lib.hid (fun k hk => by omega)
  clear hr1 hr2 ha hb hla hlb
  obtain ⟨n1, hn1⟩ : ∃ n, a.length = n := ⟨_, rfl⟩
  obtain ⟨n2, hn2⟩ : ∃ n, b.length = n := ⟨_, rfl⟩
  rw [hn1, hn2]
  have HN1 := Lib.hid hn1; have HN2 := Lib.hid hn2
  clear hn1 hn2
  gi_wp2_with fail
  refine ⟨trivial, ?_⟩
  refine (callsIn_wide.2 (merged_calls _ a1 a2 n1 n2 c1 c2)).mono ?_
  rintro e w' ⟨rfl, rfl⟩
  gi_wp2_with fail
  have bF := Boxed.new w 69 (.func (.func 52) #[] #[])
  have b1 : Below (w.heap.size + 1) (w.alloc (.cells #[.func (.func 52) #[] #[]] 69)) ((w.alloc (.cells #[.func (.func 52) #[] #[]] 69)).alloc (.cells #[.slice none 0 0] 22)) := (Below.refl _ _).alloc (by simp) _
  have bO := Boxed.new (w.alloc (.cells #[.func (.func 52) #[] #[]] 69)) 22 (.slice none 0 0)
  have bA := Boxed.new ((w.alloc (.cells #[.func (.func 52) #[] #[]] 69)).alloc (.cells #[.slice none 0 0] 22)) 22 (.slice a1 n1 c1)
  have bB := Boxed.new (((w.alloc (.cells #[.func (.func 52) #[] #[]] 69)).alloc (.cells #[.slice none 0 0] 22)).alloc (.cells #[.slice a1 n1 c1] 22)) 22 (.slice a2 n2 c2)
  simp only [World.size_alloc] at bO bA bB
  obtain ⟨w1, hw1⟩ : ∃ w1, w.alloc (.cells #[.func (.func 52) #[] #[]] 69) = w1 := ⟨_, rfl⟩
  have hs1 : w1.heap.size = w.heap.size + 1 := by rw [← hw1]; simp
  have hbw : Fr [] w w1 := by rw [← hw1]; exact (Fr.refl [] w).alloc _
  have hcF : w1.cell? ⟨w.heap.size, 0, none⟩ = some (.func (.func 52) #[] #[]) := by rw [← hw1]; exact bF.cell
  rw [hw1] at b1 bO bA bB ⊢
  obtain ⟨W0, hW0⟩ : ∃ W0, ((w1.alloc (.cells #[.slice none 0 0] 22)).alloc (.cells #[.slice a1 n1 c1] 22)).alloc (.cells #[.slice a2 n2 c2] 22) = W0 := ⟨_, rfl⟩
  have hs0 : W0.heap.size = w.heap.size + 4 := by rw [← hW0]; simp [hs1]
  have bO0 : Boxed W0 (w.heap.size + 1) 22 (.slice none 0 0) := by rw [← hW0]; exact (bO.alloc _).alloc _
  have hc1 : W0.cell? ⟨w.heap.size + 1 + 1, 0, none⟩ = some (.slice a1 a.length c1) := by rw [← hW0, HN1.out]; exact (bA.alloc _).cell
  have hc2 : W0.cell? ⟨w.heap.size + 1 + 1 + 1, 0, none⟩ = some (.slice a2 b.length c2) := by rw [← hW0, HN2.out]; exact bB.cell
  have hB0 : Below (w.heap.size + 1) w1 W0 := by rw [← hW0]; exact (b1.alloc (by simp; try omega) _).alloc (by simp; try omega) _
  rw [hW0]
  have hlt1 : ∀ b off, a1 = some ⟨b, off, none⟩ → 0 < a.length → b < w.heap.size + 1 := fun b off e hl => by have h1 := HR1.out; rw [e] at h1; have := h1.lt hl; omega
  have hlt2 : ∀ b' off, a2 = some ⟨b', off, none⟩ → 0 < b.length → b' < w.heap.size + 1 := fun b' off e hl => by have h1 := HR2.out; rw [e] at h1; have := h1.lt hl; omega
  have hf0 : Fr [] w W0 := hbw.trans (Fr.of_below (by rw [hs1]; exact hB0))
  have hst := merged_stopsA 3 (by omega) (w.heap.size + 1) (w.heap.size + 1 + 1) (w.heap.size + 1 + 1 + 1) a1 a2 c1 c2 a b W0 hc1 hc2 (HR1.out.keep hf0) (HR2.out.keep hf0) hlt1 hlt2 HA.out HB.out
  clear hW0 bA bB bO bF b1 hc1 hc2 hlt1 hlt2 hw1 hf0
  refine wpIn_rangeFunc_ownG rfl (by omega) (gf := 69) (lb := #[.pointer (some ⟨w.heap.size + 1 + 1, 0, none⟩), .pointer (some ⟨w.heap.size + 1 + 1 + 1, 0, none⟩)]) rfl trivial (enters_of Try.func69 (by kernel_rfl) rfl)
    hst belowK_t (belowK_b (by omega)) (Below.refl _ _) (fun _ => rfl)
    (fun pre W => (∃ v, Boxed W (w.heap.size + 1) 22 v ∧ W.ownsRow (w.heap.size + 1) 3 1 v (((pre).filter fun p : Int × Int => p.2 == 3).map fun p : Int × Int => p.1).length ((((pre).filter fun p : Int × Int => p.2 == 3).map fun p : Int × Int => p.1).map (Value.int .i64)) ∧ True) ∧ Below (w.heap.size + 1) w1 W)
    (fun _ _ _ => False)
    (OwnFrom.and (Own.from (holdsRow_own (w.heap.size + 1) (w.heap.size + 1) 22 3 1 (fun pre : List (Int × Int) => (((pre).filter fun p : Int × Int => p.2 == 3).map fun p : Int × Int => p.1).length) (fun pre => (((pre).filter fun p : Int × Int => p.2 == 3).map fun p : Int × Int => p.1).map (Value.int .i64)) (fun pre v => True)) _) (ownFrom_below (by omega) (by omega)))
    (fun _ _ _ _ _ hs _ _ => hs)
    ⟨⟨_, bO0, by simpa using World.ownsRow_nil _ _ _ _, trivial⟩, hB0⟩
    (fun x_ => { tmps := #[.slice a1 n1 c1, .slice a2 n2 c2, .func (.func 52) #[] #[], undef, undef, .pointer (some ⟨w.heap.size, 0, none⟩), .slice none 0 0, .pointer (some ⟨w.heap.size + 1, 0, none⟩), .int .i64 x_.1, .int .i64 x_.2, .slice a1 n1 c1, .slice a2 n2 c2, .func (.func 69) #[] #[.pointer (some ⟨w.heap.size + 1 + 1, 0, none⟩), .pointer (some ⟨w.heap.size + 1 + 1 + 1, 0, none⟩)], .int .i64 x_.1, .int .i64 x_.2, undef, undef, undef, undef, undef, undef, undef, undef], defers := [] }) ?assign ?body ?done ?stop
  case assign =>
    intro l x W K hK
    simp only [enc2]
    gi_wp2
    exact hK
  case body =>
    rintro l pre x W ⟨⟨v, hv, hrow, _⟩, hB⟩ hlt
    obtain ⟨t, i⟩ := x
    have hc := hv.cell
    have hcf : W.cell? ⟨w.heap.size, 0, none⟩ = some (.func (.func 52) #[] #[]) := (hB.cell (p := ⟨w.heap.size, 0, none⟩) (by simp)).trans hcF
    have hpl : (((pre).filter fun p : Int × Int => p.2 == 3).map fun p : Int × Int => p.1).length ≤ pre.length := by simp; exact List.length_filter_le _ _
    have hle := HLE.out _ hlt
    by_cases hi3 : i = 3
    · subst hi3
      have hsn : (((pre ++ [(t, 3)]).filter fun p : Int × Int => p.2 == 3).map fun p : Int × Int => p.1) = (((pre).filter fun p : Int × Int => p.2 == 3).map fun p : Int × Int => p.1) ++ [t] := by simp [List.filter_append]
      have hw := gatherM_want W 3
      rw [show (((3 : Int)) == 3) = true from rfl] at hw
      have HSN := Lib.hid hsn
      clear hsn
      generalize (((pre).filter fun p : Int × Int => p.2 == 3).map fun p : Int × Int => p.1) = fp at *
      gi_wp2_with (first
        | (refine ⟨trivial, ?_⟩; gi_at_call 52; refine (CallsIn.inRound l (callsIn_wide.2 hw)).mono ?_; rintro e w' ⟨rfl, rfl⟩)
        | (gi_at_builtin; refine wpListIn_append_own _ rfl _ _ 22 rfl (w.heap.size + 1) 3 i0 (.int .i64 0) 1 8 Try.underlying22 hi hz0 hz1 hz2 rfl (by decide) _ _ _ rfl (hrow.alloc _) ⟨W.heap.size, 0, none⟩ 1 1 [.int .i64 t] rfl rfl (cell_one_new _ _ _) (by simp [Value.oneCell']) (by unfold maxLen; omega) (by omega) (by have := hB.size; simp; omega) ?_; intro v' w1 hown' hgrow _; obtain ⟨g', cap', rfl⟩ := ownsRow_succ hown'; obtain ⟨hv1, hv2, hr2, hk2, hb2⟩ := hv.appended (by decide) hrow (by have := hB.size; omega) (Nat.le_refl _) hown' hgrow; have hc1 := hv1.cell; have hf1 := hv1.frozen))
      exact ⟨hk2.from _, hb2, ⟨_, hv2, by rw [HSN.out]; simpa using hr2, trivial⟩, hB.trans hb2⟩
    · have hsn : (((pre ++ [(t, i)]).filter fun p : Int × Int => p.2 == 3).map fun p : Int × Int => p.1) = (((pre).filter fun p : Int × Int => p.2 == 3).map fun p : Int × Int => p.1) := by simp [List.filter_append, hi3]
      have hw := gatherM_want W i
      rw [show (i == 3) = false by simpa using hi3] at hw
      have HSN := Lib.hid hsn
      clear hsn
      generalize (((pre).filter fun p : Int × Int => p.2 == 3).map fun p : Int × Int => p.1) = fp at *
      gi_wp2_with (refine ⟨trivial, ?_⟩; gi_at_call 52; refine (CallsIn.inRound l (callsIn_wide.2 hw)).mono ?_; rintro e w' ⟨rfl, rfl⟩)
      exact ⟨KeepsFrom.refl _ _, Below.refl _ _, ⟨v, hv, by rw [HSN.out]; exact hrow, trivial⟩, hB⟩
  case done =>
    rintro D ys W hD rfl ⟨⟨v, hv, hrow, _⟩, hB⟩ hK
    have hc := hv.cell
    have hkb := belowK_b (n₀ := w.heap.size + 1) (w := W0) (by omega) W D _ (.deferred none) hD hK rfl rfl
    gi_wp2
    refine ⟨by simp, .inl ⟨_, _, rfl, run_takeDeferred hK, ?_⟩⟩
    exact ⟨_, results_tmp rfl _ _ _, v, rfl, ownsRow_lower (ownsRow_putObj hrow _ hK rfl) (Nat.le_succ _), hbw.trans (Fr.of_below (by rw [hs1]; exact hB.trans hkb))⟩
  case stop =>
    rintro D c pre W _ _ h _
    exact h.elim
end Go.Proofs.Ytdbhppfpalpfmaa
