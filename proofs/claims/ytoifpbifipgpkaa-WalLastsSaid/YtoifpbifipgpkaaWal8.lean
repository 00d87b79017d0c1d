/-
  wal: Write of a store is refused; Abort, Commits.
-/
import Derived.Test.YtoifpbifipgpkaaWal7
namespace Go.Proofs.Ytoifpbifipgpkaa
open Go.RowKit Go.MapKept
set_option maxHeartbeats 1000000 in
theorem swrite_dead (w : World) (s p u l m n q : Nat) (wv : Value) (all last : Int) (gone : Bool) (b : Int) (v : Dv) (hs : StoreBox w s p u wv all last gone) (hd : DvAt w p l m n q b v) (hv : (gone || v.d) = true) (i : Int) (x : Value) :
    Calls Try.prog 13 #[.pointer (some ⟨s, 0, none⟩), .int .i64 i, x] w fun e w' => e = .returned (.int .i64 50) ∧ Fr [s] w w' ∧ StoreBox w' s p u wv all last true := by
  have H1 := Lib.hid (died_calls w s p u wv all last gone hs l m n q b v hd)
  rw [hv] at H1
  clear hs hd hv
  go_enter Try.func13, Try.ntmps13
  go_wp2_with fail
  refine H1.out.mono ?_
  rintro e w1 ⟨rfl, hf1, hs1⟩
  have HF := Lib.hid hf1; have HS := Lib.hid hs1
  clear hf1 hs1
  go_wp2_with fail
  go_ret
  exact ⟨rfl, HF.out, HS.out⟩
set_option maxHeartbeats 1000000 in
theorem swrite_arg (w : World) (s p u l m n q : Nat) (wv : Value) (all last : Int) (b : Int) (v : Dv) (hs : StoreBox w s p u wv all last false) (hd : DvAt w p l m n q b v) (hv : v.d = false) (hps : s ≠ p ∧ s ≠ l ∧ s ≠ m) (i : Int) (ad : Option Addr) (k cap : Nat) (ho : (decide (0 ≤ i) && decide (i < roomI n)) = false ∨ k ≠ 64) :
    Calls Try.prog 13 #[.pointer (some ⟨s, 0, none⟩), .int .i64 i, .slice ad k cap] w fun e w' => e = .returned (.int .i64 1) ∧ Fr [s] w w' ∧ StoreBox w' s p u wv all last false := by
  have H1 := Lib.hid (died_calls w s p u wv all last false hs l m n q b v hd)
  rw [hv] at H1
  have HD := Lib.hid hd
  clear hs hd hv
  go_enter Try.func13, Try.ntmps13
  go_wp2_with fail
  refine H1.out.mono ?_
  rintro e w1 ⟨rfl, hf1, hs1⟩
  have hh := shas_calls w1 s p u wv all last false hs1 l m n q b v (HD.out.keep hf1 (by simp; omega) (by simp; omega) (by simp; omega)) i
  have HF := Lib.hid hf1; have HS := Lib.hid hs1; have HH := Lib.hid hh
  clear hf1 hs1 hh H1
  go_wp2_with fail
  refine HH.out.mono ?_
  rintro e w2 ⟨rfl, rfl⟩
  clear HH
  generalize (decide (0 ≤ i) && decide (i < roomI n)) = r at *
  cases r with
  | false =>
    clear ho
    go_wp2_with fail
    go_ret
    exact ⟨rfl, HF.out, HS.out⟩
  | true =>
    have hk : ¬ ((k : Int) = 64) := by rcases ho with h | h; cases h; omega
    clear ho
    go_wp2_with fail
    go_ret
    exact ⟨rfl, HF.out, HS.out⟩
theorem commits_calls (w : World) (s p u : Nat) (wv : Value) (all last : Int) (gone : Bool) (hs : StoreBox w s p u wv all last gone) :
    Calls Try.prog 17 #[.pointer (some ⟨s, 0, none⟩)] w fun e w' => e = .returned (.tuple #[.int .i64 all, .int .i64 last]) ∧ Fr [] w w' := by
  have hc := box_cell hs
  clear hs
  go_enter Try.func17, Try.ntmps17
  go_wp2_with fail
  go_quiet (fail)
  have HF := Lib.hid (drewN_fr0 w nq)
  go_wp2_with fail
  go_ret2
  exact ⟨rfl, HF.out⟩
set_option maxHeartbeats 1000000 in
theorem abort_calls (w : World) (s p u : Nat) (wv : Value) (all last : Int) (gone : Bool) (hs : StoreBox w s p u wv all last gone) :
    Calls Try.prog 25 #[.pointer (some ⟨s, 0, none⟩)] w fun e w' => ∃ u', e = .returned (.tuple #[]) ∧ w.heap.size ≤ u' ∧ Fr [s] w w' ∧ StoreBox w' s p u' wv all last gone ∧ IMap w' u' (fun _ => none) := by
  have hmm := @run_makeMap Try.prog
  have hsA : StoreBox (w.alloc (.map #[] 0)) s p u wv all last gone := ((Fr.refl [] w).alloc _).keep hs (by simp)
  have hcA := box_cell hsA
  have hfA := box_free hsA
  have hlt := lt_of_heap hs
  have hset := box_set hs 1 (.map (some w.heap.size))
  have hfa : Fr [] (w.setCell ⟨s, 1, none⟩ (.map (some w.heap.size))) ((w.setCell ⟨s, 1, none⟩ (.map (some w.heap.size))).alloc (.map #[] 0)) := (Fr.refl [] _).alloc _
  have hset2 : StoreBox ((w.setCell ⟨s, 1, none⟩ (.map (some w.heap.size))).alloc (.map #[] 0)) s p w.heap.size wv all last gone := hfa.keep (by simpa [StoreBox] using hset) (by simp)
  have hf : Fr [s] w ((w.setCell ⟨s, 1, none⟩ (.map (some w.heap.size))).alloc (.map #[] 0)) := (((Fr.refl [s] w).setCell (.inl (by simp)) _)).alloc _
  have hm : IMap ((w.setCell ⟨s, 1, none⟩ (.map (some w.heap.size))).alloc (.map #[] 0)) w.heap.size (fun _ => none) := ⟨#[], 0, by
    have := heap_alloc_new (w.setCell ⟨s, 1, none⟩ (.map (some w.heap.size))) (.map #[] 0)
    rwa [show (w.setCell ⟨s, 1, none⟩ (.map (some w.heap.size))).heap.size = w.heap.size by simp [World.setCell]] at this, Holds.empty 0⟩
  have HS := Lib.hid hset2; have HF := Lib.hid hf; have HM := Lib.hid hm
  clear hs hset hset2 hf hm hfa hsA
  go_enter Try.func25, Try.ntmps25
  go_wp2_with fail
  go_end0
  exact ⟨_, rfl, Nat.le_refl _, HF.out, HS.out, HM.out⟩
end Go.Proofs.Ytoifpbifipgpkaa
