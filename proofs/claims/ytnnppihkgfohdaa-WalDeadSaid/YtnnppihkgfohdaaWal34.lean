/-
  wal: Open of a dead device.
-/
import Derived.Test.YtnnppihkgfohdaaWal6
namespace Go.Proofs.Ytnnppihkgfohdaa
open Go.RowKit Go.MapKept
set_option maxHeartbeats 1000000 in
theorem finish_dead (w : World) (p l m n q : Nat) (b : Int) (v : Dv) (h : DvAt w p l m n q b v) (hb : b < 9000000000000000000) (hn : 0 < n) (hv : v.d = true) :
    Calls Try.prog 35 #[.pointer (some ⟨p, 0, none⟩)] w fun e w' => e = .returned (.int .i64 50) ∧ Fr [p, l, m] w w' := by
  have hW := waiting_calls w p l m n q v.c v.f v.d v.ls v.wt h.at_
  have hN : ∀ w', Fr [] w w' → Calls Try.prog 46 #[.pointer (some ⟨p, 0, none⟩), .int .i64 0, .int .i64 0] w' fun e w'' => e = .returned (.tuple #[.int .i64 0, .int .i64 50]) ∧ Fr [p] w' w'' := fun w' hf => by
    have := readNumber_calls w' p l m n q b v (h.keep hf (by simp) (by simp) (by simp)) hb 0 hn 0 (by omega)
    rw [show (v.read 0).1 = 50 by unfold Dv.read; rw [hv]; rfl, if_pos hv] at this
    exact this.mono fun e w'' ⟨h1, h2, _⟩ => ⟨h1, h2⟩
  have hFl : ∀ w', Fr [] w w' → Calls Try.prog 40 #[.pointer (some ⟨p, 0, none⟩)] w' fun e w'' => e = .returned (.int .i64 50) ∧ Fr [p, l, m] w' w'' := fun w' hf => by
    have := dflush_calls w' p l m n q b v (h.keep hf (by simp) (by simp) (by simp)) hb
    rw [show v.flush.1 = 50 by unfold Dv.flush; rw [hv]; rfl] at this
    exact this.mono fun e w'' ⟨h1, h2, _⟩ => ⟨h1, h2⟩
  have HW := Lib.hid hW; have HN := Lib.hid hN; have HFL := Lib.hid hFl
  clear hW hN hFl h hv
  go_enter Try.func35, Try.ntmps35
  go_wp2_with fail
  refine HW.out.mono ?_
  rintro e w1 ⟨vx, ks, rfl, _, _, _, hown, hnil, hf1⟩
  have HF1 := Lib.hid hf1
  by_cases hks : ks = []
  · obtain rfl := hnil.2 hks
    clear hown hnil hf1 hks
    go_wp2_with fail
    refine (HN.out w1 HF1.out).mono ?_
    rintro e w2 ⟨rfl, hf2⟩
    have HF2 := Lib.hid ((HF1.out.mono (l' := [p, l, m]) (by simp)).trans (hf2.mono (by simp)))
    clear hf2
    go_wp2_with fail
    go_ret
    exact ⟨rfl, HF2.out⟩
  · obtain ⟨a, cap, rfl⟩ : ∃ a cap, vx = .slice a ks.length cap := by
      rcases hown.2 with ⟨h1, h2⟩ | ⟨g, cap, cur, h1, _⟩
      · exact absurd (List.eq_nil_of_length_eq_zero h2) hks
      · exact ⟨_, cap, h1⟩
    have hl : (0 : Int) < (ks.length : Int) := by have := List.length_pos_iff.2 hks; omega
    clear hown hnil hf1 hks
    go_wp2_with fail
    refine (HFL.out w1 HF1.out).mono ?_
    rintro e w2 ⟨rfl, hf2⟩
    have HF2 := Lib.hid ((HF1.out.mono (l' := [p, l, m]) (by simp)).trans hf2)
    clear hf2
    go_wp2_with fail
    go_ret
    exact ⟨rfl, HF2.out⟩
set_option maxHeartbeats 1000000 in
theorem open_dead (w : World) (p l m n q : Nat) (b : Int) (v : Dv) (h : DvAt w p l m n q b v) (hb : b < 9000000000000000000) (hn : 300 < n) (hv : v.d = true) :
    Calls Try.prog 16 #[.pointer (some ⟨p, 0, none⟩)] w fun e w' => e = .returned (.tuple #[.pointer none, .int .i64 50]) ∧ Fr [p, l, m] w w' := by
  have hnb := h.at_.nb
  have HS := Lib.hid (size_calls w p l m n q v.c v.f v.d v.ls v.wt h.at_)
  have HR := Lib.hid (room_calls w n (by omega))
  have hr : roomI n = (n : Int) - 300 := by unfold roomI; rw [if_neg (by omega)]
  have HF := Lib.hid (finish_dead w p l m n q b v h hb (by omega) hv)
  rw [hr] at HR
  clear h hr hv
  have hne : ¬ ((n : Int) - 300 = 0) := by omega
  go_enter Try.func16, Try.ntmps16
  go_wp2_with fail
  refine HS.out.mono ?_
  rintro e w1 ⟨rfl, rfl⟩
  go_wp2_with fail
  refine HR.out.mono ?_
  rintro e w1 ⟨rfl, rfl⟩
  go_wp2_with fail
  refine HF.out.mono ?_
  rintro e w1 ⟨rfl, hf1⟩
  have HF1 := Lib.hid hf1
  clear hf1
  go_wp2_with fail
  go_ret2
  exact ⟨rfl, HF1.out⟩
end Go.Proofs.Ytnnppihkgfohdaa
