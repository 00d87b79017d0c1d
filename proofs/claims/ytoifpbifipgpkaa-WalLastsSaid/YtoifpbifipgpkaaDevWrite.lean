/-
  Write.
-/
import Derived.Test.YtoifpbifipgpkaaDev
import Derived.RegionTactic
import Derived.BigRegion
namespace Go.Proofs.Ytoifpbifipgpkaa
open Go.RowKit Go.MapKept
set_option maxRecDepth 100000 in
set_option maxHeartbeats 400000 in
theorem write_dead (w : World) (p l m n q : Nat) (c f : Int) (ls : Nat → List UInt8) (wt : Int → Option (List UInt8)) (h : DevAt w p l m n q c f true ls wt) (i : Int) (b : Value) :
    Calls Try.prog 50 #[.pointer (some ⟨p, 0, none⟩), .int .i64 i, b] w fun e w' => e = .returned (.int .i64 50) ∧ w = w' := by
  have hc := box_cell h.box; clear h
  go_enter Try.func50, Try.ntmps50
  go_wp2
  go_ret
  exact ⟨rfl, rfl⟩
set_option maxRecDepth 100000 in
set_option maxHeartbeats 400000 in
theorem write_arg (w : World) (p l m n q : Nat) (c f : Int) (ls : Nat → List UInt8) (wt : Int → Option (List UInt8)) (h : DevAt w p l m n q c f false ls wt) (i : Int) (hi : -9223372036854775808 ≤ i ∧ i ≤ 9223372036854775807) (a : Option Addr) (k cap : Nat) (hout : ¬ (0 ≤ i ∧ i < n) ∨ k ≠ 64) :
    Calls Try.prog 50 #[.pointer (some ⟨p, 0, none⟩), .int .i64 i, .slice a k cap] w fun e w' => e = .returned (.int .i64 1) ∧ w = w' := by
  have hc := box_cell h.box
  have HB := Lib.hid h.box; have hnb := h.nb; clear h
  by_cases hin : 0 ≤ i ∧ i < n
  · have hk : ((k : Int) != 64) = true := by
      rcases hout with h | h
      · exact absurd hin h
      · rw [bne_iff_ne]; omega
    clear hout
    have HO := Lib.hid hin; clear hin
    go_enter Try.func50, Try.ntmps50
    go_wp2_with fail
    refine (has_calls p l n q m c f false i w hi hnb true (by simp [HO.out]) HB.out).mono ?_
    rintro e w1 ⟨rfl, rfl⟩
    go_wp2_with fail
    go_ret
    exact ⟨rfl, rfl⟩
  · clear hout
    have HO := Lib.hid hin; clear hin
    go_enter Try.func50, Try.ntmps50
    go_wp2_with fail
    refine (has_calls p l n q m c f false i w hi hnb false (by simp [HO.out]) HB.out).mono ?_
    rintro e w1 ⟨rfl, rfl⟩
    go_wp2_with fail
    go_ret
    exact ⟨rfl, rfl⟩
/-- What waits behind a Write. -/
def wrote (wt : Int → Option (List UInt8)) (i : Int) (s : List UInt8) : Int → Option (List UInt8) := fun j => if j = i then some s else wt j
set_option maxRecDepth 100000 in
set_option maxHeartbeats 400000 in
theorem write_burnt (w : World) (p l m n q : Nat) (c : Int) (ls : Nat → List UInt8) (wt : Int → Option (List UInt8)) (h : DevAt w p l m n q c 0 false ls wt) (hcb : 0 ≤ c ∧ c < 9000000000000000000) (i : Int) (hi : 0 ≤ i ∧ i < n) (a : Option Addr) (cap : Nat) :
    Calls Try.prog 50 #[.pointer (some ⟨p, 0, none⟩), .int .i64 i, .slice a 64 cap] w fun e w' => e = .returned (.int .i64 50) ∧ Fr [p] w w' ∧ DevAt w' p l m n q c 0 true ls wt := by
  have hc := box_cell h.box
  have hnb := h.nb
  have HO := Lib.hid hi
  go_enter Try.func50, Try.ntmps50
  go_wp2_with fail
  refine (has_calls p l n q m c 0 false i w (by omega) hnb true (by simp [HO.out]) h.box).mono ?_
  rintro e w1 ⟨rfl, rfl⟩
  go_wp2_with fail
  refine (spend_calls p l n q m c 0 false w hcb (by decide) h.box).mono ?_
  rintro e w1 ⟨rfl, hfr, hb⟩
  have hd : DevAt w1 p l m n q c 0 true ls wt := h.reboxed hfr (by simpa [spent] using hb)
  clear hb hc
  go_wp2_with fail
  go_ret
  exact ⟨rfl, hfr, hd⟩
set_option maxRecDepth 100000 in
set_option maxHeartbeats 400000 in
theorem write_ok (w : World) (p l m n q : Nat) (c f : Int) (ls : Nat → List UInt8) (wt : Int → Option (List UInt8)) (h : DevAt w p l m n q c f false ls wt) (hcb : 0 ≤ c ∧ c < 9000000000000000000) (hfb : -9223372036854775808 ≤ f ∧ f ≤ 9223372036854775807) (hf0 : f ≠ 0)
    (i : Int) (hi : 0 ≤ i ∧ i < n) (b o cap : Nat) (s : List UInt8) (hs : s.length = 64) (hr : w.rangeAt b o (cel s)) (hbp : b ≠ p) :
    Calls Try.prog 50 #[.pointer (some ⟨p, 0, none⟩), .int .i64 i, .slice (some ⟨b, o, none⟩) 64 cap] w fun e w' => e = .returned (.int .i64 0) ∧ Fr [p, m] w w' ∧ DevAt w' p l m n q (c + 1) (burnF f) false ls (wrote wt i s) := by
  have hc := box_cell h.box
  have hnb := h.nb
  have HO := Lib.hid hi; have HF := Lib.hid hf0; clear hf0
  have HR := Lib.hid hr; clear hr
  have HS := Lib.hid hs; clear hs
  go_enter Try.func50, Try.ntmps50
  go_wp2_with fail
  refine (has_calls p l n q m c f false i w (by omega) hnb true (by simp [HO.out]) h.box).mono ?_
  rintro e w1 ⟨rfl, rfl⟩
  go_wp2_with fail
  refine (spend_calls p l n q m c f false w hcb hfb h.box).mono ?_
  rintro e w1 ⟨he, hfr, hb⟩
  rw [if_neg HF.out] at he
  subst he
  have hd : DevAt w1 p l m n q (c + 1) (burnF f) false ls wt := h.reboxed hfr (by rw [spent_ne HF.out] at hb; exact hb)
  clear hb hc
  have hc := box_cell hd.box
  go_wp2_with fail
  have hl : w1.drew.rangeAt b o (cel s) := by
    intro j v hv
    show w1.cell? _ = _
    rw [World.cell?_of_block (w := w)]
    · exact HR.out j v hv
    · exact hfr.block b (World.block_lt_of_cell? _ _ (HR.out j v hv)) (by simpa using hbp)
  have HR1 := Lib.hid hl; clear hl
  have hd1 : DevAt w1.drew p l m n q (c + 1) (burnF f) false ls wt := hd.keep ((Fr.refl [] _).drew) (by simp) (by simp) (by simp)
  have hfr1 : Fr [p] w w1.drew := hfr.drew
  go_still_tail 8, (by kernel_rfl)
  change wpStill _ _ w1.drew _ _ _
  refine wpStill_array rfl _ _ rfl ⟨b, o, none⟩ 64 cap rfl 64 5 Try.underlying91 (Nat.le_refl _) ?_
  refine wpStill_loadMid rfl _ _ rfl b o rfl (cel s) HR1.out 64 5 Try.underlying91 (by rw [cel_length, HS.out]; exact Try.size65) ?_
  refine wpStill_nil ?_
  refine wL_mapUpdate rfl _ _ _ _ rfl 3 91 Try.underlying90 Try.underlying3 m rfl i rfl (secV s) rfl _ hd1.wai ?_
  intro w2 hfr2 hmap
  have hd2 : DevAt w2 p l m n q (c + 1) (burnF f) false ls (wrote wt i s) := by
    refine ⟨hfr2.keep hd1.box (by simpa using hd.pm), hd1.las.keep ?_, ?_, ?_, hd1.pl, hd1.nb⟩
    · obtain ⟨lc, h1, _⟩ := hd1.las
      exact hfr2.block l (lt_of_heap h1) (by simpa using hd.lm)
    · have e : (fun j => if j = i then some (secV s) else (fun j => (wt j).map secV) j) = fun j => (wrote wt i s j).map secV := by
        funext j
        unfold wrote
        by_cases hj : j = i <;> simp [hj]
      rw [← e]; exact hmap
    · intro j t hj
      unfold wrote at hj
      by_cases e : j = i
      · rw [if_pos e] at hj; cases hj; exact ⟨by omega, by omega, HS.out⟩
      · rw [if_neg e] at hj; exact hd.dom j t hj
  have hfrw : Fr [p, m] w w2 := (hfr1.mono (by simp)).trans (hfr2.mono (by simp))
  clear hd hd1 hmap hfr2 hfr1 h
  go_wp2_with fail
  go_ret
  exact ⟨rfl, hfrw, hd2⟩
end Go.Proofs.Ytoifpbifipgpkaa
