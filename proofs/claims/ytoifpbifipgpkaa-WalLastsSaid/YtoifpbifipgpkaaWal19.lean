/-
  wal: slices.Backward over what waits, as a sequence.
-/
import Derived.Test.YtoifpbifipgpkaaWal17
namespace Go.Proofs.Ytoifpbifipgpkaa
open Go.RowKit Go.Shelf
attribute [local go_sem] Oper.semAt_some
/-- What is told at step x: the place, and the map. -/
def backA (ms : List Nat) (x : Nat) : Array Value := #[.int .i64 ((ms.length - 1 - x : Nat) : Int), .map (some (ms.getD (ms.length - 1 - x) 0))]
set_option maxRecDepth 100000 in
set_option maxHeartbeats 2000000 in
theorem back1_in (n : Nat) (hn : 1 ≤ n) (l Bs g cap : Nat) (ms : List Nat) (ad : Option Addr) (had : 0 < ms.length → ad = some ⟨g, 0, none⟩) (hcap : ms.length ≤ 8192) (J Jx : List Nat → World → Prop)
    (hY : ∀ pre x W, J pre W → pre.length < ms.length → YieldAt Fence.wide (n - 1) Try.prog l (backA ms x) W fun e W' =>
      (e = .returned (.bool true) ∧ J (pre ++ [x]) W' ∧ Two Bs g W W') ∨ (e = .returned (.bool false) ∧ Jx (pre ++ [x]) W'))
    (W : World) (hBs : W.cell? ⟨Bs, 0, none⟩ = some (.slice ad ms.length cap)) (hg : ∀ j, j < ms.length → W.cell? ⟨g, j, none⟩ = some (.map (some (ms.getD j 0)))) (h0 : J [] W) :
    CallsIn Fence.wide n Try.prog 65 #[.func (.yield l) #[] #[], .pointer (some ⟨Bs, 0, none⟩)] W fun e W' => (∃ v, e = .returned v) ∧
      ((∃ ys, ys = List.range ms.length ∧ J ys W') ∨ (∃ pre, (∃ k, k ≤ ms.length ∧ pre = List.range k) ∧ Jx pre W')) := by
  obtain ⟨K, hK⟩ : ∃ K, ms.length = K := ⟨_, rfl⟩
  have hA : ∀ x, backA ms x = #[.int .i64 ((K - 1 - x : Nat) : Int), .map (some (ms.getD (K - 1 - x) 0))] := fun x => by unfold backA; rw [hK]
  rw [hK] at had hcap hBs
  have wk : IntKind.i64.wrap ((K : Int) - 1) = (K : Int) - 1 := IntWalk.i64_in _ (by omega)
  refine callsIn_of_wp Try.func65 rfl trivial ?_ rfl
  simp only [Try.ntmps65, List.size_toArray, List.length_cons, List.length_nil, Nat.reduceAdd, Nat.reduceSub, Array.replicate_succ, Array.replicate_zero, List.push_toArray, List.append_toArray, List.nil_append, List.cons_append]
  gi_wp2
  gi_loopw [3] (fun v3 wr => ∃ t : Nat, t ≤ K ∧ v3 = .int .i64 ((t : Int) - 1) ∧ J (List.range (K - t)) wr ∧ Two Bs g W wr)
    (fun v3 _ => (intOf v3 + 1).toNat)
  case atStart => exact ⟨K, Nat.le_refl _, rfl, by rw [Nat.sub_self]; exact h0, Two.refl _ _ _⟩
  case round =>
    obtain ⟨t, ht, rfl, hJ, htw⟩ := hrel
    have hc1 : wr.cell? ⟨Bs, 0, none⟩ = some (.slice ad K cap) := (htw.cell1 0).trans hBs
    by_cases h1 : 0 < t
    · obtain ⟨t, rfl⟩ : ∃ t', t = t' + 1 := ⟨t - 1, by omega⟩
      obtain rfl := had (by omega)
      have e1 : ((t + 1 : Nat) : Int) - 1 = (t : Int) := by omega
      rw [e1]
      have b0 : (0 : Int) ≤ (t : Int) := by omega
      have b1 : (t : Int) < (K : Int) := by omega
      have hc2 : wr.cell? ⟨g, t, none⟩ = some (.map (some (ms.getD t 0))) := (htw.cell2 t).trans (hg t (by rw [hK]; omega))
      have w3 : IntKind.i64.wrap ((t : Int) - 1) = (t : Int) - 1 := IntWalk.i64_in _ (by omega)
      obtain ⟨fn, tmps, assign, body, hy, hR⟩ := hY _ (K - (t + 1)) wr hJ (by rw [hK]; simp; omega)
      rw [hA, show K - 1 - (K - (t + 1)) = t by omega] at hy
      have HPRE : Hid (List.range (K - (t + 1)) ++ [K - (t + 1)] = List.range (K - t)) := Lib.hid (by rw [show K - t = K - (t + 1) + 1 by omega, List.range_succ])
      have HT := Lib.hid htw
      clear hY htw
      generalize ms.getD t 0 = mj at hc2 hy
      gi_wp2_with fail
      refine hR.mono ?_
      rintro e W3 (⟨rfl, hJ3, hk3⟩ | ⟨rfl, hJx3⟩)
      · gi_wp2
        go_roundw
        case rel => exact ⟨t, by omega, rfl, by rw [← HPRE.out]; exact hJ3, HT.out.trans hk3⟩
        case measure => simp [intOf]
      · gi_wp2
        refine bodyPost_ret (results_none rfl _ _ _) rfl ?_
        exact ⟨⟨_, rfl⟩, .inr ⟨_, ⟨K - t, by omega, HPRE.out⟩, hJx3⟩⟩
    · obtain rfl : t = 0 := by omega
      have e1 : ((0 : Nat) : Int) - 1 = -1 := by omega
      rw [e1]
      rw [Nat.sub_zero] at hJ
      clear hY h0
      gi_wp2
      go_end0
      exact ⟨⟨_, rfl⟩, .inl ⟨_, rfl, by rw [hK]; exact hJ⟩⟩
theorem back_stops (n : Nat) (hn : 1 ≤ n) (Bs g cap : Nat) (ms : List Nat) (ad : Option Addr) (had : 0 < ms.length → ad = some ⟨g, 0, none⟩) (hcap : ms.length ≤ 8192) (w : World) (hgl : 0 < ms.length → g < w.heap.size)
    (hc : w.cell? ⟨Bs, 0, none⟩ = some (.slice ad ms.length cap)) (hg : ∀ j, j < ms.length → w.cell? ⟨g, j, none⟩ = some (.map (some (ms.getD j 0)))) :
    SeqStopsK Fence.wide n Try.prog 65 #[.pointer (some ⟨Bs, 0, none⟩)] (backA ms) (Two Bs g) (fun ys => ys = List.range ms.length) (fun pre => ∃ k, k ≤ ms.length ∧ pre = List.range k) ms.length w := fun l J Jx W hW hJ _ hY h0 =>
  back1_in n hn l Bs g cap ms ad had hcap J Jx hY W (by rw [World.cell?_of_block (w := w) (hW.block Bs (World.block_lt_of_cell? _ _ hc))]; exact hc)
    (fun j hj => by rw [World.cell?_of_block (w := w) (hW.block g (hgl (by omega)))]; exact hg j hj) h0
set_option maxHeartbeats 1000000 in
theorem back_calls (w : World) (ad : Option Addr) (K cap : Nat) :
    Calls Try.prog 47 #[.slice ad K cap] w fun e w' => e = .returned (.func (.func 65) #[] #[.pointer (some ⟨w.heap.size, 0, none⟩)]) ∧ w' = w.alloc (.cells #[.slice ad K cap] 86) := by
  go_enter Try.func47, Try.ntmps47
  go_wp2
  go_ret
  exact ⟨rfl, rfl⟩
end Go.Proofs.Ytoifpbifipgpkaa
