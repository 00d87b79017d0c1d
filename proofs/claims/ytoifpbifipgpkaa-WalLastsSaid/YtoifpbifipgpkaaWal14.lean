/-
  wal: a list of numbers in pieces.
-/
import Derived.Test.YtoifpbifipgpkaaWal13
import Derived.RangeFuncBox
import Derived.RangeFuncLeaves
import Derived.RangeFuncNested
import Derived.Shelf.Abstract
import Derived.WalkKit
import Derived.OwnWalkIn
import Derived.TacticsInMore
import Derived.LoopNIn
import Derived.LoopIn
namespace Go.Proofs.Ytoifpbifipgpkaa
open Go.RowKit Go.Shelf
attribute [local go_sem] Oper.semAt_some
/-- Two boxes lie as they lay. -/
def Two (b1 b2 : Nat) (A B : World) : Prop := B.heap[b1]? = A.heap[b1]? ∧ B.heap[b2]? = A.heap[b2]?
theorem Two.refl (b1 b2 : Nat) (A : World) : Two b1 b2 A A := ⟨rfl, rfl⟩
theorem Two.trans {b1 b2 : Nat} {A B C : World} (h : Two b1 b2 A B) (k : Two b1 b2 B C) : Two b1 b2 A C := ⟨k.1.trans h.1, k.2.trans h.2⟩
theorem Two.cell1 {b1 b2 : Nat} {A B : World} (h : Two b1 b2 A B) (j : Nat) : B.cell? ⟨b1, j, none⟩ = A.cell? ⟨b1, j, none⟩ := World.cell?_of_block h.1
theorem Two.cell2 {b1 b2 : Nat} {A B : World} (h : Two b1 b2 A B) (j : Nat) : B.cell? ⟨b2, j, none⟩ = A.cell? ⟨b2, j, none⟩ := World.cell?_of_block h.2
theorem Two.drewN {b1 b2 : Nat} (A : World) (k : Nat) : Two b1 b2 A (A.drewN k) := ⟨rfl, rfl⟩
/-- Piece k of K numbers. -/
def pieceV (g K k : Nat) : Value := .slice (some ⟨g, 32 * k, none⟩) (min 32 (K - 32 * k)) (min 32 (K - 32 * k))
set_option maxRecDepth 100000 in
set_option maxHeartbeats 2000000 in
theorem chunk1_in (n : Nat) (hn : 1 ≤ n) (l Bs Bn g K cap : Nat) (hK : K ≤ cap) (hcap : K ≤ 8192) (C : Nat) (hC : C = (K + 31) / 32) (J Jx : List Nat → World → Prop)
    (hdrew : ∀ pre W k, J pre W → J pre (W.drewN k))
    (hY : ∀ pre x W, J pre W → pre.length < C → YieldAt Fence.wide (n - 1) Try.prog l #[pieceV g K x] W fun e W' =>
      (e = .returned (.bool true) ∧ J (pre ++ [x]) W' ∧ Two Bs Bn W W') ∨ (e = .returned (.bool false) ∧ Jx (pre ++ [x]) W'))
    (W : World) (hBs : W.cell? ⟨Bs, 0, none⟩ = some (.slice (some ⟨g, 0, none⟩) K cap)) (hBn : W.cell? ⟨Bn, 0, none⟩ = some (.int .i64 32)) (h0 : J [] W) :
    CallsIn Fence.wide n Try.prog 76 #[.func (.yield l) #[] #[], .pointer (some ⟨Bs, 0, none⟩), .pointer (some ⟨Bn, 0, none⟩)] W fun e W' => (∃ v, e = .returned v) ∧
      ((∃ ys, ys = List.range C ∧ J ys W') ∨ (∃ pre, (∃ k, k ≤ C ∧ pre = List.range k) ∧ Jx pre W')) := by
  refine callsIn_of_wp Try.func76 rfl trivial ?_ rfl
  simp only [Try.ntmps76, List.size_toArray, List.length_cons, List.length_nil, Nat.reduceAdd, Nat.reduceSub, Array.replicate_succ, Array.replicate_zero, List.push_toArray, List.append_toArray, List.nil_append, List.cons_append]
  gi_wp2
  gi_loopw [4] (fun v4 wr => ∃ k : Nat, k ≤ C ∧ v4 = .int .i64 ((32 * k : Nat) : Int) ∧ J (List.range k) wr ∧ Two Bs Bn W wr)
    (fun v4 _ => K + 64 - (intOf v4).toNat)
  case atStart => exact ⟨0, Nat.zero_le _, rfl, h0, Two.refl _ _ _⟩
  case round =>
    obtain ⟨k, hk, rfl, hJ, htw⟩ := hrel
    have hc1 : wr.cell? ⟨Bs, 0, none⟩ = some (.slice (some ⟨g, 0, none⟩) K cap) := (htw.cell1 0).trans hBs
    have hc2 : wr.cell? ⟨Bn, 0, none⟩ = some (.int .i64 32) := (htw.cell2 0).trans hBn
    by_cases hlt : 32 * k < K
    · have hlt' : ((32 * k : Nat) : Int) < (K : Int) := by omega
      have hkC : k < C := by omega
      have hmin : (min (32 : Int) ((K : Int) - ((32 * k : Nat) : Int))) = ((min 32 (K - 32 * k) : Nat) : Int) := by omega
      have b0 : (0 : Int) ≤ ((32 * k : Nat) : Int) := by omega
      have b1 : ((32 * k : Nat) : Int) ≤ (K : Int) := by omega
      gi_wp2_with fail
      gi_quiet (fail)
      have hc3 : (wr.drewN nq).cell? ⟨Bs, 0, none⟩ = some (.slice (some ⟨g, 0, none⟩) K cap) := hc1
      have hc4 : (wr.drewN nq).cell? ⟨Bn, 0, none⟩ = some (.int .i64 32) := hc2
      have hJ2 : J (List.range k) (wr.drewN nq) := hdrew _ _ _ hJ
      have htw2 : Two Bs Bn W (wr.drewN nq) := htw
      generalize wr.drewN nq = wq at *
      obtain ⟨fn, tmps, assign, body, hy, hR⟩ := hY _ k wq hJ2 (by simpa using hkC)
      have hq : min 32 (K - 32 * k) = (32 * (k : Int) + min 32 ((K - 32 * k : Nat) : Int)).toNat - 32 * k := by omega
      unfold pieceV at hy
      rw [hq] at hy
      clear hY hmin
      have HPRE : Hid (List.range k ++ [k] = List.range (k + 1)) := Lib.hid (by rw [List.range_succ])
      gi_wp2_with fail
      refine hR.mono ?_
      rintro e W3 (⟨rfl, hJ3, hk3⟩ | ⟨rfl, hJx3⟩)
      · have hc5 : W3.cell? ⟨Bn, 0, none⟩ = some (.int .i64 32) := (hk3.cell2 0).trans hc4
        gi_wp2
        go_roundw
        case rel => exact ⟨k + 1, by omega, by go_num, by rw [← HPRE.out]; exact hJ3, htw2.trans hk3⟩
        case measure => simp [intOf]; omega
      · gi_wp2
        refine bodyPost_ret (results_none rfl _ _ _) rfl ?_
        exact ⟨⟨_, rfl⟩, .inr ⟨_, ⟨k + 1, by omega, HPRE.out⟩, hJx3⟩⟩
    · have hlt' : ¬ ((32 * k : Nat) : Int) < (K : Int) := by omega
      have hkC : k = C := by omega
      rw [hkC] at hJ
      clear hC hY h0 hkC
      gi_wp2
      go_end0
      exact ⟨⟨_, rfl⟩, .inl hJ⟩
end Go.Proofs.Ytoifpbifipgpkaa
