/-
  wal: Open of a device without a log.
-/
import Derived.Test.YtoifpbifipgpkaaWal5
namespace Go.Proofs.Ytoifpbifipgpkaa
open Go.RowKit Go.MapKept
/-- Nothing waits, and the head tells of nothing. -/
structure Calm (v : Dv) : Prop where
  live : v.d = false
  none_ : v.wt = fun _ => none
  head : numAt (v.ls 0) 0 = 0
set_option maxHeartbeats 1000000 in
theorem finish_calm (w : World) (p l m n q : Nat) (b : Int) (v : Dv) (h : DvAt w p l m n q b v) (hb : b < 9000000000000000000) (hn : 0 < n) (hv : Calm v) :
    Calls Try.prog 46 #[.pointer (some ⟨p, 0, none⟩)] w fun e w' => e = .returned (.int .i64 0) ∧ Fr [p] w w' ∧ DvAt w' p l m n q (b + 1) (v.read 0).2 := by
  have hW := waiting_calls w p l m n q v.c v.f v.d v.ls v.wt h.at_
  have ht : v.text 0 = v.ls 0 := by unfold Dv.text secNow; rw [hv.live, hv.none_]; rfl
  have hN : ∀ w', Fr [] w w' → Calls Try.prog 63 #[.pointer (some ⟨p, 0, none⟩), .int .i64 0, .int .i64 0] w' fun e w'' => e = .returned (.tuple #[.int .i64 0, .int .i64 0]) ∧ Fr [p] w' w'' ∧ DvAt w'' p l m n q (b + 1) (v.read 0).2 := fun w' hf => by
    have := readNumber_calls w' p l m n q b v (h.keep hf (by simp) (by simp) (by simp)) hb 0 hn 0 (by omega)
    rw [ht, hv.head, hv.live] at this
    have hc : (v.read 0).1 = 0 := by unfold Dv.read; rw [hv.live]; rfl
    rw [hc] at this
    exact this
  have HW := Lib.hid hW; have HN := Lib.hid hN
  have HV := Lib.hid hv
  clear hW hN h hv ht
  go_enter Try.func46, Try.ntmps46
  go_wp2_with fail
  refine HW.out.mono ?_
  rintro e w1 ⟨vx, ks, rfl, hmem, _, _, hown, hnil, hf1⟩
  have hks : ks = [] := by
    cases ks with
    | nil => rfl
    | cons x xs =>
      obtain ⟨s, hs⟩ := (hmem x).1 (by simp)
      rw [HV.out.none_] at hs
      cases hs
  obtain rfl := hnil.2 hks
  have HF1 := Lib.hid hf1
  clear hmem hown hnil hf1 hks
  go_wp2_with fail
  refine (HN.out w1 HF1.out).mono ?_
  rintro e w2 ⟨rfl, hf2, hd2⟩
  have HF2 := Lib.hid ((HF1.out.mono (l' := [p]) (by simp)).trans hf2); have HD2 := Lib.hid hd2
  clear hf2 hd2
  go_wp2_with fail
  go_ret
  exact ⟨rfl, HF2.out, HD2.out⟩
theorem open_nil (w : World) : Calls Try.prog 19 #[.pointer none] w fun e w' => e = .returned (.tuple #[.pointer none, .int .i64 1]) ∧ w = w' := by
  go_enter Try.func19, Try.ntmps19
  go_wp2_with fail
  go_ret2
  exact ⟨rfl, rfl⟩
theorem open_small (w : World) (p l m n q : Nat) (b : Int) (v : Dv) (h : DvAt w p l m n q b v) (hn : n ≤ 300) :
    Calls Try.prog 19 #[.pointer (some ⟨p, 0, none⟩)] w fun e w' => e = .returned (.tuple #[.pointer none, .int .i64 1]) ∧ w = w' := by
  have HS := Lib.hid (size_calls w p l m n q v.c v.f v.d v.ls v.wt h.at_)
  have hr : roomI n = 0 := by unfold roomI; split <;> omega
  have HR := Lib.hid (room_calls w n (by omega))
  rw [hr] at HR
  clear h
  go_enter Try.func19, Try.ntmps19
  go_wp2_with fail
  refine HS.out.mono ?_
  rintro e w1 ⟨rfl, rfl⟩
  go_wp2_with fail
  refine HR.out.mono ?_
  rintro e w1 ⟨rfl, rfl⟩
  go_wp2_with fail
  go_ret2
  exact ⟨rfl, rfl⟩
/-- A store as Open gives it. -/
def Opened (w : World) (p l m n q : Nat) (b : Int) (v : Dv) (e : Ending) (w' : World) : Prop :=
  ∃ s u, e = .returned (.tuple #[.pointer (some ⟨s, 0, none⟩), .int .i64 0]) ∧ w.heap.size ≤ s ∧ w.heap.size ≤ u ∧ s ≠ u ∧ StoreBox w' s p u (.slice none 0 0) 0 0 false ∧ IMap w' u (fun _ => none) ∧ Fr [p] w w' ∧ DvAt w' p l m n q b v
set_option maxHeartbeats 1000000 in
theorem open_calm (w : World) (p l m n q : Nat) (b : Int) (v : Dv) (h : DvAt w p l m n q b v) (hb : b < 9000000000000000000) (hn : 300 < n) (hv : Calm v) :
    Calls Try.prog 19 #[.pointer (some ⟨p, 0, none⟩)] w (Opened w p l m n q (b + 1) (v.read 0).2) := by
  have hmm := @run_makeMap Try.prog
  have hnb := h.at_.nb
  have HS := Lib.hid (size_calls w p l m n q v.c v.f v.d v.ls v.wt h.at_)
  have HR := Lib.hid (room_calls w n (by omega))
  have hr : roomI n = (n : Int) - 300 := by unfold roomI; rw [if_neg (by omega)]
  have HF := Lib.hid (finish_calm w p l m n q b v h hb (by omega) hv)
  rw [hr] at HR
  have hlt := h.lts
  clear h hr hv
  have hne : ¬ ((n : Int) - 300 = 0) := by omega
  go_enter Try.func19, Try.ntmps19
  go_wp2_with fail
  refine HS.out.mono ?_
  rintro e w1 ⟨rfl, rfl⟩
  go_wp2_with fail
  refine HR.out.mono ?_
  rintro e w1 ⟨rfl, rfl⟩
  go_wp2_with fail
  refine HF.out.mono ?_
  rintro e w1 ⟨rfl, hf1, hd1⟩
  have HF1 := Lib.hid hf1; have HD1 := Lib.hid hd1
  clear hf1 hd1
  go_wp2_with fail
  go_ret2
  have hsz := HF1.out.size
  have e1 : (w1.alloc (.map #[] 0)).heap.size = w1.heap.size + 1 := by simp
  have hfa : Fr [] w1 ((w1.alloc (.map #[] 0)).alloc (.cells #[.pointer (some ⟨p, 0, none⟩), .map (some w1.heap.size), .slice none 0 0, .int .i64 0, .int .i64 0, .bool false] 88)) := ((Fr.refl [] w1).alloc _).alloc _
  refine ⟨w1.heap.size + 1, w1.heap.size, rfl, by omega, hsz, by omega, ?_, ⟨#[], 0, ?_, Holds.empty 0⟩, HF1.out.trans (hfa.mono (by simp)), HD1.out.keep hfa (by simp) (by simp) (by simp)⟩
  · have := heap_alloc_new (w1.alloc (.map #[] 0)) (.cells #[.pointer (some ⟨p, 0, none⟩), .map (some w1.heap.size), .slice none 0 0, .int .i64 0, .int .i64 0, .bool false] 88)
    rw [e1] at this
    exact this
  · exact ((Fr.refl [] (w1.alloc (.map #[] 0))).alloc _).keep (heap_alloc_new w1 _) (by simp)
end Go.Proofs.Ytoifpbifipgpkaa
