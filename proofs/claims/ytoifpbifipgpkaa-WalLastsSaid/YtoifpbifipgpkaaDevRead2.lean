/-
  Read of what lasts.
-/
import Derived.Test.YtoifpbifipgpkaaDevRead
namespace Go.Proofs.Ytoifpbifipgpkaa
open Go.RowKit Go.MapKept
set_option maxRecDepth 100000 in
set_option maxHeartbeats 4000000 in
theorem read_lasts (w : World) (p l m n q : Nat) (c f : Int) (ls : Nat → List UInt8) (wt : Int → Option (List UInt8)) (h : DevAt w p l m n q c f false ls wt) (hcb : 0 ≤ c ∧ c < 9000000000000000000) (i : Nat) (hi : i < n) (hwt : wt i = none) :
    Calls Try.prog 48 #[.pointer (some ⟨p, 0, none⟩), .int .i64 i] w (ReadOK w p l m n q c f ls wt (ls i)) := by
  have hc := box_cell h.box; have hf := box_free h.box; have hnb := h.nb; have hp := lt_of_heap h.box
  obtain ⟨s, hsi⟩ : ∃ s, s = ls i := ⟨_, rfl⟩
  have hs : s.length = 64 := by obtain ⟨_, _, _, h3⟩ := h.las; rw [hsi]; exact (h3 i hi).1
  have hcl : (cel s).length = 64 := by rw [cel_length, hs]
  have hw1 : DevAt (w.setCell ⟨p, 2, none⟩ (.int .i64 (c + 1))) p l m n q (c + 1) f false ls wt := h.reboxed ((Fr.refl _ _).setCell (.inl (by simp)) _) (box_set h.box 2 _)
  have hrg := hw1.las.range hi
  rw [← hsi] at hrg ⊢
  have HR := Lib.hid hrg; clear hrg hsi
  have HL := Lib.hid hcl; have HS := Lib.hid hs; clear hs hcl
  have HW := Lib.hid hwt; clear hwt
  have HI := Lib.hid hi
  go_enter Try.func48, Try.ntmps48
  go_wp2_with fail
  refine (has_calls p l n q m c f false i w (by omega) hnb true (by simp [hi]) h.box).mono ?_
  rintro e w1 ⟨rfl, rfl⟩
  go_wp2_with (first
    | (at_lookup; refine wL_lookup rfl _ _ 90 rfl 3 91 Try.underlying90 Try.underlying3 _ Try.zero65 m rfl i rfl _ hw1.wai none (by simp [HW.out]) ?_)
    | (refine wL_allocW (o := ⟨some 6, .alloc 91, _, _, _, _⟩) rfl 91 rfl _ Try.zero65 ?_)
    | (refine wL_loadMid (o := ⟨some 40, .load 91 _, _, _, _, _⟩) rfl 91 _ rfl l (i * 64) rfl (cel s) (World.rangeAt_alloc HR.out _) 64 5 Try.underlying91 (by rw [HL.out]; exact Try.size65) ?_)
    | (refine wL_storeNew (o := ⟨none, .store 91 _ (.tmp 30), _, _, _, _⟩) rfl 91 _ _ rfl _ _ rfl ?d0 _ rfl _ ?d1 ?d2 ?d3 ?_)
    | (refine wL_storeNew (o := ⟨none, .store 91 _ (.tmp 40), _, _, _, _⟩) rfl 91 _ _ rfl _ _ rfl ?c0 _ rfl _ ?c1 ?c2 ?c3 ?_)
    | fail)
  case d0 => simp [World.setCell]
  case d1 => simp [Try.size65, zcells_size]
  case d2 => rfl
  case d3 => exact zcells_one
  case c0 => simp [World.setCell]
  case c1 => simp [Try.size65, HL.out]
  case c2 => simp [zcells_size, HL.out]
  case c3 => exact all_oneCell_toArray (cel_one s)
  go_wp2_with fail
  refine (cloneB_calls w.heap.size 0 64 s _ (rangeAt_new _ _ _ _ (by simp [World.setCell])) 64 HS.out (by omega)).mono ?_
  rintro e w2 ⟨v, rfl, hfr, hown⟩
  go_wp2_with fail
  go_ret2
  refine ⟨v, rfl, ?_, (hw1.keep ((Fr.refl [] _).alloc _) (by simp) (by simp) (by simp)).keep hfr (by simp) (by simp) (by simp), ?_⟩
  · exact (((Fr.refl [p] w).setCell (.inl (by simp)) _).alloc _).trans (hfr.mono (by simp))
  · rw [← HS.out]; exact ownsRow_base hown (by simp)
/-- What lies in sector i. -/
def secNow (ls : Nat → List UInt8) (wt : Int → Option (List UInt8)) (i : Nat) : List UInt8 := (wt i).getD (ls i)
theorem read_ok (w : World) (p l m n q : Nat) (c f : Int) (ls : Nat → List UInt8) (wt : Int → Option (List UInt8)) (h : DevAt w p l m n q c f false ls wt) (hcb : 0 ≤ c ∧ c < 9000000000000000000) (i : Nat) (hi : i < n) :
    Calls Try.prog 48 #[.pointer (some ⟨p, 0, none⟩), .int .i64 i] w (ReadOK w p l m n q c f ls wt (secNow ls wt i)) := by
  unfold secNow
  cases hwt : wt i with
  | none => exact read_lasts w p l m n q c f ls wt h hcb i hi hwt
  | some s => exact read_waits w p l m n q c f ls wt h hcb i hi s hwt
set_option maxHeartbeats 400000 in
theorem read_dead (w : World) (p l m n q : Nat) (c f : Int) (ls : Nat → List UInt8) (wt : Int → Option (List UInt8)) (h : DevAt w p l m n q c f true ls wt) (i : Int) :
    Calls Try.prog 48 #[.pointer (some ⟨p, 0, none⟩), .int .i64 i] w fun e w' => e = .returned (.tuple #[.slice none 0 0, .int .i64 50]) ∧ w = w' := by
  have hc := box_cell h.box; clear h
  go_enter Try.func48, Try.ntmps48
  go_wp2
  go_ret2
  exact ⟨rfl, rfl⟩
set_option maxRecDepth 100000 in
set_option maxHeartbeats 400000 in
theorem read_arg (w : World) (p l m n q : Nat) (c f : Int) (ls : Nat → List UInt8) (wt : Int → Option (List UInt8)) (h : DevAt w p l m n q c f false ls wt) (i : Int) (hi : -9223372036854775808 ≤ i ∧ i ≤ 9223372036854775807) (hout : ¬ (0 ≤ i ∧ i < n)) :
    Calls Try.prog 48 #[.pointer (some ⟨p, 0, none⟩), .int .i64 i] w fun e w' => e = .returned (.tuple #[.slice none 0 0, .int .i64 1]) ∧ w = w' := by
  have hc := box_cell h.box
  have HB := Lib.hid h.box; have hnb := h.nb; clear h
  have HO := Lib.hid hout; clear hout
  go_enter Try.func48, Try.ntmps48
  go_wp2_with fail
  refine (has_calls p l n q m c f false i w hi hnb false (by simp [HO.out]) HB.out).mono ?_
  rintro e w1 ⟨rfl, rfl⟩
  go_wp2_with fail
  go_ret2
  exact ⟨rfl, rfl⟩
end Go.Proofs.Ytoifpbifipgpkaa
