/-
  The small calls of a device.
-/
import Derived.Test.YtoifpbifipgpkaaDev
namespace Go.Proofs.Ytoifpbifipgpkaa
open Go.RowKit Go.MapKept
set_option maxHeartbeats 400000 in
theorem fuse_calls (w : World) (p l m n q : Nat) (c f : Int) (d : Bool) (ls : Nat → List UInt8) (wt : Int → Option (List UInt8)) (h : DevAt w p l m n q c f d ls wt) (k : Int) :
    Calls Try.prog 22 #[.pointer (some ⟨p, 0, none⟩), .int .i64 k] w fun e w' => e = .returned (.tuple #[]) ∧ Fr [p] w w' ∧ DevAt w' p l m n q c k d ls wt := by
  have hc := box_cell h.box; have hf := box_free h.box
  have hd : DevAt (w.setCell ⟨p, 3, none⟩ (.int .i64 k)) p l m n q c k d ls wt := h.reboxed ((Fr.refl _ _).setCell (.inl (by simp)) _) (box_set h.box 3 _)
  refine calls_raw (v := .tuple #[]) (W := w.setCell ⟨p, 3, none⟩ (.int .i64 k)) ?_ ⟨rfl, (Fr.refl _ _).setCell (.inl (by simp)) _, hd⟩
  clear h hd
  go_enter Try.func22, Try.ntmps22
  go_wp2
  go_end0
  exact ⟨rfl, rfl⟩
set_option maxHeartbeats 400000 in
theorem dead_calls (w : World) (p l m n q : Nat) (c f : Int) (d : Bool) (ls : Nat → List UInt8) (wt : Int → Option (List UInt8)) (h : DevAt w p l m n q c f d ls wt) :
    Calls Try.prog 23 #[.pointer (some ⟨p, 0, none⟩)] w fun e w' => e = .returned (.bool d) ∧ w = w' := by
  have hc := box_cell h.box; clear h
  go_enter Try.func23, Try.ntmps23
  go_wp2
  go_ret
  exact ⟨rfl, rfl⟩
set_option maxHeartbeats 400000 in
theorem size_calls (w : World) (p l m n q : Nat) (c f : Int) (d : Bool) (ls : Nat → List UInt8) (wt : Int → Option (List UInt8)) (h : DevAt w p l m n q c f d ls wt) :
    Calls Try.prog 45 #[.pointer (some ⟨p, 0, none⟩)] w fun e w' => e = .returned (.int .i64 n) ∧ w = w' := by
  have hc := box_cell h.box; clear h
  go_enter Try.func45, Try.ntmps45
  go_wp2
  go_ret
  exact ⟨rfl, rfl⟩
end Go.Proofs.Ytoifpbifipgpkaa
