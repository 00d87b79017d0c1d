/-
  Read.
-/
import Derived.Test.YtoifpbifipgpkaaDev
namespace Go.Proofs.Ytoifpbifipgpkaa
open Go.RowKit Go.MapKept
/-- What Read answers. -/
def ReadOK (w : World) (p l m n q : Nat) (c f : Int) (ls : Nat → List UInt8) (wt : Int → Option (List UInt8)) (s : List UInt8) (e : Ending) (w' : World) : Prop :=
  ∃ v, e = .returned (.tuple #[v, .int .i64 0]) ∧ Fr [p] w w' ∧ DevAt w' p l m n q (c + 1) f false ls wt ∧ w'.ownsRow w.heap.size 5 1 v 64 (cel s)
set_option maxRecDepth 100000 in
set_option maxHeartbeats 400000 in
theorem read_waits (w : World) (p l m n q : Nat) (c f : Int) (ls : Nat → List UInt8) (wt : Int → Option (List UInt8)) (h : DevAt w p l m n q c f false ls wt) (hcb : 0 ≤ c ∧ c < 9000000000000000000) (i : Nat) (hi : i < n) (s : List UInt8) (hwt : wt i = some s) :
    Calls Try.prog 48 #[.pointer (some ⟨p, 0, none⟩), .int .i64 i] w (ReadOK w p l m n q c f ls wt s) := by
  have hc := box_cell h.box; have hf := box_free h.box; have hnb := h.nb
  have hs : s.length = 64 := (h.dom i s hwt).2.2
  have hcl : (cel s).length = 64 := by rw [cel_length, hs]
  have hw1 : DevAt (w.setCell ⟨p, 2, none⟩ (.int .i64 (c + 1))) p l m n q (c + 1) f false ls wt := h.reboxed ((Fr.refl _ _).setCell (.inl (by simp)) _) (box_set h.box 2 _)
  have HL := Lib.hid hcl; have HS := Lib.hid hs; clear hs hcl
  have HW := Lib.hid hwt; clear hwt
  have HI := Lib.hid hi
  go_enter Try.func48, Try.ntmps48
  go_wp2_with fail
  refine (has_calls p l n q m c f false i w (by omega) hnb true (by simp [hi]) h.box).mono ?_
  rintro e w1 ⟨rfl, rfl⟩
  go_wp2_with (first
    | (at_lookup; refine wL_lookup rfl _ _ 90 rfl 3 91 Try.underlying90 Try.underlying3 _ Try.zero65 m rfl i rfl _ hw1.wai (some (secV s)) (by simp [HW.out]) ?_)
    | (refine wL_allocW (o := ⟨some 6, .alloc 91, _, _, _, _⟩) rfl 91 rfl _ Try.zero65 ?_)
    | (refine wL_storeNew (o := ⟨none, .store 91 _ _, _, _, _, _⟩) rfl 91 _ _ rfl _ _ rfl ?c0 _ rfl _ ?c1 ?c2 ?c3 ?_)
    | fail)
  case c0 => simp [World.setCell]
  case c1 => simp [Try.size65, HL.out]
  case c2 => simp [zcells_size, HL.out]
  case c3 => exact all_oneCell_toArray (cel_one s)
  go_wp2_with fail
  refine (cloneB_calls w.heap.size 0 64 s _ (rangeAt_new _ _ _ _ (by simp [World.setCell])) 64 HS.out (by omega)).mono ?_
  rintro e w2 ⟨v, rfl, hfr, hown⟩
  go_wp2_with fail
  go_ret2
  refine ⟨v, rfl, ?_, (hw1.keep ((Fr.refl [] _).alloc _) (by simp) (by simp) (by simp)).keep hfr (by simp) (by simp) (by simp), ?_⟩
  · exact (((Fr.refl [p] w).setCell (.inl (by simp)) _).alloc _).trans (hfr.mono (by simp))
  · rw [← HS.out]; exact ownsRow_base hown (by simp)
end Go.Proofs.Ytoifpbifipgpkaa
