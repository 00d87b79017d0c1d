/-
  The document's own device: Flush.
-/
import Derived.Test.YthjoakgcmelhmaaRef
import Derived.RegionTactic
import Derived.BigRegion
import Derived.ChangeAlike
import Derived.Deep.LoopGhost
namespace Go.Proofs.Ythjoakgcmelhmaa
open Go.RowKit Go.MapKept
set_option maxHeartbeats 400000 in
theorem rflush_dead (w : World) (r b n q : Nat) (c f : Int) (ls nw : Nat → List UInt8) (wt : Nat → Bool) (h : RefAt w r b n q c f true ls nw wt) :
    Calls Try.prog 21 #[.pointer (some ⟨r, 0, none⟩)] w fun e w' => e = .returned (.int .i64 50) ∧ w = w' := by
  have hc := box_cell h.box; clear h
  go_enter Try.func21, Try.ntmps21
  go_wp2
  go_ret
  exact ⟨rfl, rfl⟩
set_option maxHeartbeats 400000 in
theorem rflush_burnt (w : World) (r b n q : Nat) (c : Int) (ls nw : Nat → List UInt8) (wt : Nat → Bool) (h : RefAt w r b n q c 0 false ls nw wt) :
    Calls Try.prog 21 #[.pointer (some ⟨r, 0, none⟩)] w fun e w' => e = .returned (.int .i64 50) ∧ Fr [r] w w' ∧ RefAt w' r b n q c 0 true ls nw wt := by
  have hc := box_cell h.box; have hnb := h.nb
  have HB := Lib.hid (burn_calls w r b n q c 0 false ls nw wt h (by omega)); clear h
  go_enter Try.func21, Try.ntmps21
  go_wp2_with fail
  refine HB.out.mono ?_
  rintro e w2 ⟨rfl, hf2, hd2⟩
  go_wp2_with fail
  go_ret
  exact ⟨rfl, hf2, hd2⟩
/-- The first i last. -/
def lastR (ls nw : Nat → List UInt8) (i : Nat) : Nat → List UInt8 := fun j => if j < i then nw j else ls j
def dryR (wt : Nat → Bool) (i : Nat) : Nat → Bool := fun j => if j < i then false else wt j
theorem lastR_step (ls nw : Nat → List UInt8) (i : Nat) : (fun j => if j = i then nw i else lastR ls nw i j) = lastR ls nw (i + 1) := by
  funext j
  unfold lastR
  by_cases e : j = i
  · simp [e]
  · by_cases l : j < i
    · have : j < i + 1 := by omega
      simp [e, l, this]
    · have : ¬ j < i + 1 := by omega
      simp [e, l, this]
theorem dryR_step (wt : Nat → Bool) (i : Nat) : (fun j => if j = i then false else dryR wt i j) = dryR wt (i + 1) := by
  funext j
  unfold dryR
  by_cases e : j = i
  · simp [e]
  · by_cases l : j < i
    · have : j < i + 1 := by omega
      simp [e, l, this]
    · have : ¬ j < i + 1 := by omega
      simp [e, l, this]
def RFlushOK (w : World) (r b n q : Nat) (c f : Int) (nw : Nat → List UInt8) (e : Ending) (w' : World) : Prop :=
  e = .returned (.int .i64 0) ∧ Fr [r, b] w w' ∧ RefAt w' r b n q (c + 1) (fuseR f) false nw nw (fun _ => false)
theorem RefAt.congr {w : World} {r b n q : Nat} {c f : Int} {d : Bool} {ls nw ls' nw' : Nat → List UInt8} {wt wt' : Nat → Bool} (h : RefAt w r b n q c f d ls nw wt) (hl : ∀ j, j < n → ls' j = ls j) (hn : ∀ j, j < n → nw' j = nw j) (hw : ∀ j, j < n → wt' j = wt j) : RefAt w r b n q c f d ls' nw' wt' := by
  obtain ⟨a, k1, k2, k3⟩ := h.sec
  exact ⟨h.box, ⟨a, k1, k2, fun j hj => by rw [hl j hj, hn j hj, hw j hj]; exact k3 j hj⟩, h.rb, h.nb⟩
set_option maxRecDepth 100000 in
set_option maxHeartbeats 1000000 in
theorem rflush_ok (w : World) (r b n q : Nat) (c f : Int) (ls nw : Nat → List UInt8) (wt : Nat → Bool) (h : RefAt w r b n q c f false ls nw wt) (hf : -1 ≤ f ∧ f ≤ 9223372036854775807) (f0 : f ≠ 0) (hcb : 0 ≤ c ∧ c < 9000000000000000000) :
    Calls Try.prog 21 #[.pointer (some ⟨r, 0, none⟩)] w (RFlushOK w r b n q c f nw) := by
  have hc := box_cell h.box; have hnb := h.nb; have hrb := h.rb; have hbr := Ne.symm hrb
  have HB := Lib.hid (burn_calls w r b n q c f false ls nw wt h hf); clear h
  go_enter Try.func21, Try.ntmps21
  go_wp2_with fail
  refine HB.out.mono ?_
  rintro e w2 ⟨rfl, hf2, hd2⟩
  have hdec : decide (f ≠ 0) = true := by simpa using f0
  rw [if_neg f0] at hd2
  have hc2 := box_cell hd2.box; have hfr2 := box_free hd2.box
  have g1 := hd2.reboxed ((Fr.refl _ _).setCell (.inl (by simp)) _) (box_set hd2.box 1 (.int .i64 (c + 1)))
  have HG := Lib.hid g1; have HF2 := Lib.hid (hf2.setCell (p := ⟨r, 1, none⟩) (.inl (by simp)) (.int .i64 (c + 1)))
  clear hd2 hf2 g1 HB hc
  go_wp2_with fail
  go_loopw [3] (fun v wr => ∃ i : Nat, i ≤ n ∧ v = .int .i64 i ∧ Fr [r, b] w wr ∧ RefAt wr r b n q (c + 1) (fuseR f) false (lastR ls nw i) nw (dryR wt i)) (fun v _ => n - (intOf v).toNat)
  case atStart =>
    refine ⟨0, by omega, rfl, HF2.out.mono (by simp), ?_⟩
    exact HG.out.congr (fun j _ => by simp [lastR]) (fun _ _ => rfl) (fun j _ => by simp [dryR])
  case round =>
    obtain ⟨i, hi, rfl, hFr, hR⟩ := hrel
    have hc3 := box_cell hR.box; have hsf := hR.sec.free
    by_cases hlt : i < n
    · obtain ⟨h1, h2, h3⟩ := hR.sec.cells hlt
      have HR := Lib.hid hR; have HFr := Lib.hid hFr
      clear hR hFr hc2 hfr2
      go_wp2_with fail
      go_region
      go_wp2_with fail
      have hR := HR.out
      have k1 := (hR.sec.setL i (nw i)).setW i false
      rw [lastR_step, dryR_step] at k1
      have hfr : Fr [r, b] w (((wr.setCell ⟨b, i * 3, none⟩ (.string ⟨(nw i).toArray⟩)).setCell ⟨b, i * 3 + 2, none⟩ (.bool false)).drew) :=
        ((HFr.out.setCell (.inl (by simp)) _).setCell (.inl (by simp)) _).drew
      have hbox : ((wr.setCell ⟨b, i * 3, none⟩ (.string ⟨(nw i).toArray⟩)).setCell ⟨b, i * 3 + 2, none⟩ (.bool false)).heap[r]? = some (.cells #[.slice (some ⟨b, 0, none⟩) n q, .int .i64 (c + 1), .int .i64 (fuseR f), .bool false] 52 (0, 0)) := by
        rw [heap_set_other (by simpa using hrb), heap_set_other (by simpa using hrb)]; exact hR.box
      have HR2 := Lib.hid ((RefAt.mk hbox k1 hR.rb hR.nb).keep ((Fr.refl [] _).drew) (by simp) (by simp))
      have HF3 := Lib.hid hfr
      clear k1 hfr hbox hR
      go_roundw
      case rel => exact ⟨i + 1, by omega, by go_num, HF3.out, HR2.out⟩
      case measure => simp [intOf]; omega
    · obtain rfl : i = n := by omega
      go_wp2_with fail
      go_ret
      exact ⟨rfl, hFr, hR.congr (fun j hj => by simp [lastR, hj]) (fun _ _ => rfl) (fun j hj => by simp [dryR, hj])⟩
end Go.Proofs.Ythjoakgcmelhmaa
