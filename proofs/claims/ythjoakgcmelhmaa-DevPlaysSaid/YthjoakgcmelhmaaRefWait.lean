/-
  The document's own device: Waiting.
-/
import Derived.Test.YthjoakgcmelhmaaRefCrash
namespace Go.Proofs.Ythjoakgcmelhmaa
open Go.RowKit Go.MapKept
theorem Try.infoInt : (Try.prog.info? 3).map (fun i => (i.zero, i.size, i.bytes)) = some (some (.int .i64 0), 1, 8) := by kernel_rfl
/-- The sectors below k that wait. -/
def gotR (wt : Nat → Bool) (k : Nat) : List Int := ((List.range k).filter wt).map fun j : Nat => (j : Int)
theorem gotR_hit {wt : Nat → Bool} {k : Nat} (h : wt k = true) : gotR wt (k + 1) = gotR wt k ++ [(k : Int)] := by simp [gotR, List.range_succ, h]
theorem gotR_miss {wt : Nat → Bool} {k : Nat} (h : wt k = false) : gotR wt (k + 1) = gotR wt k := by simp [gotR, List.range_succ, h]
theorem gotR_le (wt : Nat → Bool) (k : Nat) : (gotR wt k).length ≤ k := by
  simp only [gotR, List.length_map]
  exact Nat.le_trans (List.length_filter_le _ _) (by simp)
theorem gotR_mem (wt : Nat → Bool) (k : Nat) (x : Int) : x ∈ gotR wt k ↔ ∃ j : Nat, j < k ∧ wt j = true ∧ (j : Int) = x := by
  simp [gotR, and_assoc]
theorem gotR_sorted (wt : Nat → Bool) (k : Nat) : (gotR wt k).Pairwise (· < ·) := by
  unfold gotR
  rw [List.pairwise_map]
  exact (List.pairwise_lt_range (n := k)).filter _ |>.imp fun h => by omega
theorem own_block {w : World} {B : Nat} {T : TypeId} {v : Value} {n s : Nat} {xs : List Value} (h : w.ownsRow B T s v n xs) : ∀ k, v.ownBlock = some k → B ≤ k := by
  intro k hk
  obtain ⟨_, h2⟩ := h
  rcases h2 with ⟨rfl, _⟩ | ⟨g, cap, cur, rfl, hB, _⟩
  · simp [Value.ownBlock] at hk
  · simp [Value.ownBlock] at hk; omega
theorem RefAt.grown {wr w1 : World} {o : Obj} {row : Option Nat} {r b n q : Nat} {c f : Int} {d : Bool} {ls nw : Nat → List UInt8} {wt : Nat → Bool} (h : RefAt wr r b n q c f d ls nw wt) (hg : (wr.alloc o).grownBy w1 row) (hr : ∀ k, row = some k → k ≠ r ∧ k ≠ b) : RefAt w1 r b n q c f d ls nw wt := by
  refine h.keep (l := row.toList) (((Fr.refl _ wr).alloc o).grown hg (fun k hk => .inl (by simp [hk]))) ?_ ?_
  · intro hx; exact (hr r (by simpa using hx)).1 rfl
  · intro hx; exact (hr b (by simpa using hx)).2 rfl
def RWaitOK (w : World) (n : Nat) (wt : Nat → Bool) (e : Ending) (w' : World) : Prop :=
  ∃ v, e = .returned v ∧ w'.ownsRow w.heap.size 3 1 v (gotR wt n).length ((gotR wt n).map (Value.int .i64)) ∧ Fr [] w w'
set_option maxRecDepth 100000 in
set_option maxHeartbeats 1000000 in
theorem rwaiting_calls (w : World) (r b n q : Nat) (c f : Int) (d : Bool) (ls nw : Nat → List UInt8) (wt : Nat → Bool) (h : RefAt w r b n q c f d ls nw wt) :
    Calls Try.prog 36 #[.pointer (some ⟨r, 0, none⟩)] w (RWaitOK w n wt) := by
  have hnb := h.nb
  have HD := Lib.hid h; clear h
  obtain ⟨i0, hi, hz0, hz1, hz2⟩ := info_parts Try.infoInt
  have HI := Lib.hid hi; have HZ0 := Lib.hid hz0; have HZ1 := Lib.hid hz1; have HZ2 := Lib.hid hz2; clear hi hz0 hz1 hz2
  go_enter Try.func36, Try.ntmps36
  go_wp2_with fail
  go_loopw [3, 4] (fun v3 v4 wr => ∃ i : Nat, i ≤ n ∧ v4 = .int .i64 i ∧ Fr [] w wr ∧ RefAt wr r b n q c f d ls nw wt ∧ wr.ownsRow w.heap.size 3 1 v3 (gotR wt i).length ((gotR wt i).map (Value.int .i64))) (fun _ v4 _ => n - (intOf v4).toNat)
  case atStart => exact ⟨0, by omega, rfl, Fr.refl _ _, HD.out, World.ownsRow_nil _ _ _ _⟩
  case round =>
    obtain ⟨i, hi, rfl, hFr, hR, hown⟩ := hrel
    have hc3 := box_cell hR.box
    by_cases hlt : i < n
    · obtain ⟨h1, h2, h3⟩ := hR.sec.cells hlt
      clear h1 h2
      have HR := Lib.hid hR; have HFr := Lib.hid hFr; have HO := Lib.hid hown
      clear hR hFr hown
      cases hw : wt i with
      | false =>
        rw [hw] at h3
        have HW := Lib.hid hw; clear hw
        go_wp2_with fail
        go_roundw
        case rel => exact ⟨i + 1, by omega, by go_num, HFr.out, HR.out, by rw [gotR_miss HW.out]; exact HO.out⟩
        case measure => simp [intOf]; omega
      | true =>
        rw [hw] at h3
        have HW := Lib.hid hw; clear hw
        have hle := gotR_le wt i
        have hsz := HFr.out.size
        go_wp2_with (first
          | (at_builtin; refine wpList_append_own _ rfl _ _ 22 rfl w.heap.size 3 i0 (.int .i64 0) 1 8 Try.underlying22 HI.out HZ0.out HZ1.out HZ2.out rfl (by decide) _ _ _ rfl (HO.out.alloc _) ⟨wr.heap.size, 0, none⟩ 1 1 [.int .i64 (i : Int)] rfl rfl ?c1 ?c2 ?c3 ?c4 ?c5 ?_)
          | fail)
        case c1 =>
          intro j u hj
          match j, hj with
          | 0, hj => simp at hj; subst hj; simp [Addr.add]
        case c2 => intro u hu; simp at hu; subst hu; rfl
        case c3 => unfold maxLen; omega
        case c4 => omega
        case c5 => simp; omega
        intro v' w1 hown' hgrow _
        have hrl := HD.out.lt
        have HFa := Lib.hid ((HFr.out.alloc _).grown hgrow (fun k hk => .inr (own_block HO.out k hk)))
        have HRa := Lib.hid (HR.out.grown hgrow (fun k hk => by have := own_block HO.out k hk; omega))
        have HOa := Lib.hid hown'
        clear hgrow hown' hrl
        go_wp2_with fail
        go_roundw
        case rel => exact ⟨i + 1, by omega, by go_num, HFa.out, HRa.out, by rw [gotR_hit HW.out]; simpa using HOa.out⟩
        case measure => simp [intOf]; omega
    · obtain rfl : n = i := by omega
      go_wp2_with fail
      go_ret
      exact ⟨_, rfl, hown, hFr⟩
end Go.Proofs.Ythjoakgcmelhmaa
