/-
  Crash.
-/
import Derived.Test.YtoifpbifipgpkaaDevFlush
namespace Go.Proofs.Ytoifpbifipgpkaa
open Go.RowKit Go.MapKept
/-- A slice of ints that came in, or nil. -/
def IntsAt (w : World) (a : Option Addr) (len : Nat) (zs : List Int) : Prop := len ≤ zs.length ∧ (0 < len → ∃ b o, a = some ⟨b, o, none⟩ ∧ ∀ i, i < len → w.cell? ⟨b, o + i, none⟩ = some (.int .i64 (zs.getD i 0)))
/-- What waits and is not among the first i numbers of the list. -/
def without (wt : Int → Option (List UInt8)) (zs : List Int) (i : Nat) : Int → Option (List UInt8) := fun j => if j ∈ zs.take i then none else wt j
/-- What waits and is among them. -/
def among (wt : Int → Option (List UInt8)) (zs : List Int) (i : Nat) : Int → Option (List UInt8) := fun j => if j ∈ zs.take i then wt j else none
theorem without_zero (wt : Int → Option (List UInt8)) (zs : List Int) : without wt zs 0 = wt := by funext j; simp [without]
theorem among_zero (wt : Int → Option (List UInt8)) (zs : List Int) : among wt zs 0 = fun _ => none := by funext j; simp [among]
theorem take_succ_getD (zs : List Int) (i : Nat) (h : i < zs.length) : zs.take (i + 1) = zs.take i ++ [zs.getD i 0] := by
  rw [List.take_succ_eq_append_getElem h]; simp [List.getD, h]
theorem among_hit {wt : Int → Option (List UInt8)} {zs : List Int} {i : Nat} (h : i < zs.length) {s : List UInt8} (hw : without wt zs i (zs.getD i 0) = some s) :
    among wt zs (i + 1) = (fun j => if j = zs.getD i 0 then some s else among wt zs i j) ∧ without wt zs (i + 1) = (fun j => if j = zs.getD i 0 then none else without wt zs i j) := by
  unfold without at hw
  split at hw
  · cases hw
  · rename_i hn
    constructor
    · funext j
      unfold among
      rw [take_succ_getD zs i h]
      by_cases e : j = zs.getD i 0
      · subst e; rw [if_pos (List.mem_append_right _ (List.mem_singleton.2 rfl)), if_pos rfl, hw]
      · simp only [List.mem_append, List.mem_singleton, e, or_false, if_false]
    · funext j
      unfold without
      rw [take_succ_getD zs i h]
      by_cases e : j = zs.getD i 0
      · subst e; simp
      · simp only [List.mem_append, List.mem_singleton, e, or_false, if_false]
theorem among_miss {wt : Int → Option (List UInt8)} {zs : List Int} {i : Nat} (h : i < zs.length) (hw : without wt zs i (zs.getD i 0) = none) :
    among wt zs (i + 1) = among wt zs i ∧ without wt zs (i + 1) = without wt zs i := by
  unfold without at hw
  have hor : zs.getD i 0 ∈ zs.take i ∨ wt (zs.getD i 0) = none := by
    split at hw
    · rename_i hm; exact .inl hm
    · exact .inr hw
  constructor
  · funext j
    unfold among
    rw [take_succ_getD zs i h]
    by_cases e : j = zs.getD i 0
    · subst e
      rcases hor with hm | hm
      · simp only [List.mem_append, List.mem_singleton, hm, or_true, if_true]
      · simp only [List.mem_append, List.mem_singleton, or_true, if_true, hm]; split <;> rfl
    · simp only [List.mem_append, List.mem_singleton, e, or_false]
  · funext j
    unfold without
    rw [take_succ_getD zs i h]
    by_cases e : j = zs.getD i 0
    · subst e
      rcases hor with hm | hm
      · simp only [List.mem_append, List.mem_singleton, hm, or_true, if_true]
      · simp only [List.mem_append, List.mem_singleton, or_true, if_true, hm]; split <;> rfl
    · simp only [List.mem_append, List.mem_singleton, e, or_false]
/-- What holds at each round's head. -/
structure Crashing (w : World) (p l m n : Nat) (bx : Array Value) (ls : Nat → List UInt8) (wt : Int → Option (List UInt8)) (zs : List Int) (k : Nat) (wr : World) : Prop where
  bx : wr.heap[p]? = some (.cells bx 95 (0, 0))
  ls : Secs wr l n ls
  mp : IMap wr m (fun j => (without wt zs k j).map secV)
  ch : IMap wr w.heap.size (fun j => (among wt zs k j).map secV)
  fr : Fr [m] w wr
theorem map_if {α β : Type} (g : α → β) (f : Int → Option α) (i : Int) (v : α) : (fun j => if j = i then some (g v) else (fun j => (f j).map g) j) = fun j => ((if j = i then some v else f j) : Option α).map g := by
  funext j; by_cases e : j = i <;> simp [e]
theorem map_ifn {α β : Type} (g : α → β) (f : Int → Option α) (i : Int) : (fun j => if j = i then none else (fun j => (f j).map g) j) = fun j => ((if j = i then none else f j) : Option α).map g := by
  funext j; by_cases e : j = i <;> simp [e]
/-- What Crash comes to. -/
def CrashOK (w : World) (p l m n q : Nat) (c : Int) (ls : Nat → List UInt8) (wt : Int → Option (List UInt8)) (flip : Bool) (zs : List Int) (len : Nat) (e : Ending) (w' : World) : Prop :=
  e = .returned (.tuple #[]) ∧ Fr [p, l, m] w w' ∧ ∃ m', (m' = m ∨ w.heap.size ≤ m') ∧
      DevAt w' p l m' n q c (-1) false (fun i : Nat => ((if flip then without wt zs len else among wt zs len) (i : Int)).getD (ls i)) (fun _ => none)
set_option maxRecDepth 100000 in
set_option maxHeartbeats 2000000 in
theorem crash_calls (w : World) (p l m n q : Nat) (c f : Int) (d : Bool) (ls : Nat → List UInt8) (wt : Int → Option (List UInt8)) (h : DevAt w p l m n q c f d ls wt) (flip : Bool) (a : Option Addr) (len cap : Nat) (zs : List Int) (hz : IntsAt w a len zs) (hm63 : len ≤ 9223372036854775807)
    (hap : 0 < len → ∀ x, a = some x → x.block ≠ m) :
    Calls Try.prog 18 #[.pointer (some ⟨p, 0, none⟩), .bool flip, .slice a len cap] w (CrashOK w p l m n q c ls wt flip zs len) := by
  have hmm := @run_makeMap Try.prog
  have hpl := h.pl; have hpm := h.pm; have hlm := h.lm; have hnb := h.nb
  have hp := lt_of_heap h.box
  have hm := h.wai.lt
  have hl : l < w.heap.size := by obtain ⟨lc, h1, _⟩ := h.las; exact lt_of_heap h1
  have hstart : Crashing w p l m n #[.slice (some ⟨l, 0, none⟩) n q, .map (some m), .int .i64 c, .int .i64 f, .bool d] ls wt zs 0 (w.alloc (.map #[] 0)) := by
    refine ⟨by rw [heap_alloc_old _ _ _ hp]; exact h.box, h.las.keep (heap_alloc_old _ _ _ hl), ?_, ?_, (Fr.refl _ _).alloc _⟩
    · rw [without_zero]; exact h.wai.keep (heap_alloc_old _ _ _ hm)
    · rw [among_zero]; exact ⟨#[], 0, heap_alloc_new _ _, Holds.empty 0⟩
  have HD := Lib.hid h; have HZ := Lib.hid hz; have HAP := Lib.hid hap; have HST := Lib.hid hstart; clear h hz hap hstart
  go_enter Try.func18, Try.ntmps18
  go_wp2_with fail
  go_loopw [14] (fun v wr => ∃ k : Nat, k ≤ len ∧ v = .int .i64 k ∧ Crashing w p l m n #[.slice (some ⟨l, 0, none⟩) n q, .map (some m), .int .i64 c, .int .i64 f, .bool d] ls wt zs k wr) (fun v _ => len - (intOf v).toNat)
  case atStart => exact ⟨0, Nat.zero_le _, rfl, HST.out⟩
  case round =>
    obtain ⟨k, hk, rfl, hC⟩ := hrel
    have hc := box_cell hC.bx
    have hpw := lt_of_heap hC.bx
    by_cases hlt : k < len
    · obtain ⟨b, o, rfl, hcell⟩ := HZ.out.2 (by omega)
      have hzl : k < zs.length := Nat.lt_of_lt_of_le hlt HZ.out.1
      have hck : wr.cell? ⟨b, o + k, none⟩ = some (.int .i64 (zs.getD k 0)) := by
        have hb := World.block_lt_of_cell? _ _ (hcell k hlt)
        rw [World.cell?_of_block (w := w) (hC.fr.block b hb (by simpa using HAP.out (by omega) _ rfl))]
        exact hcell k hlt
      obtain ⟨z, hze⟩ : ∃ z, z = zs.getD k 0 := ⟨_, rfl⟩
      rw [← hze] at hck
      cases hw : without wt zs k z with
      | none =>
        have hnext : Crashing w p l m n #[.slice (some ⟨l, 0, none⟩) n q, .map (some m), .int .i64 c, .int .i64 f, .bool d] ls wt zs (k + 1) (wr.alloc (.cells zcells 91)) := by
          obtain ⟨e1, e2⟩ := among_miss hzl (by rw [← hze]; exact hw)
          have hfa : Fr [] wr (wr.alloc (.cells zcells 91)) := (Fr.refl _ _).alloc _
          obtain ⟨lc, g1, _⟩ := id hC.ls
          refine ⟨hfa.keep hC.bx (by simp), hC.ls.keep (hfa.block _ (lt_of_heap g1) (by simp)), ?_, ?_, hC.fr.alloc _⟩
          · rw [e2]; exact hC.mp.keep (hfa.block _ hC.mp.lt (by simp))
          · rw [e1]; exact hC.ch.keep (hfa.block _ hC.ch.lt (by simp))
        have HN := Lib.hid hnext; have HC := Lib.hid hC; have HW := Lib.hid hw; have HZE := Lib.hid hze
        clear hnext hC hw hze hcell
        go_wp2_with (first
          | (at_lookup; refine wL_lookup rfl _ _ 90 rfl 3 91 Try.underlying90 Try.underlying3 _ Try.zero65 m rfl z rfl _ HC.out.mp none (by simp [HW.out]) ?_)
          | (refine wL_allocW (o := ⟨some 9, .alloc 91, _, _, _, _⟩) rfl 91 rfl _ Try.zero65 ?_)
          | (refine wL_storeNew (o := ⟨none, .store 91 _ (.tmp 25), _, _, _, _⟩) rfl 91 _ _ rfl _ _ rfl rfl _ rfl _ ?c1 ?c2 ?c3 ?_)
          | fail)
        case c1 => simp [Try.size65, zcells_size]
        case c2 => rfl
        case c3 => exact zcells_one
        go_roundw
        case rel => exact ⟨k + 1, by omega, by go_num, HN.out⟩
        case measure => simp [intOf]; omega
      | some s =>
        obtain ⟨e1, e2⟩ := among_hit hzl (by rw [← hze]; exact hw)
        have hdom : s.length = 64 := by
          have : wt z = some s := by unfold without at hw; split at hw; cases hw; exact hw
          exact (HD.out.dom _ _ this).2.2
        have hqm : w.heap.size ≠ m := by omega
        have hqp : w.heap.size ≠ p := by omega
        have hql : w.heap.size ≠ l := by omega
        have HC := Lib.hid hC; have HW := Lib.hid hw; have HZE := Lib.hid hze; have HE1 := Lib.hid e1; have HE2 := Lib.hid e2; have HS := Lib.hid hdom
        clear hC hw hze hcell e1 e2 hdom
        have hfa : Fr [] wr (wr.alloc (.cells (cel s).toArray 91)) := (Fr.refl _ _).alloc _
        have hch2 : IMap (wr.alloc (.cells (cel s).toArray 91)) w.heap.size (fun j => (among wt zs k j).map secV) := HC.out.ch.keep (hfa.block _ HC.out.ch.lt (by simp))
        have hmp2 : IMap (wr.alloc (.cells (cel s).toArray 91)) m (fun j => (without wt zs k j).map secV) := HC.out.mp.keep (hfa.block _ HC.out.mp.lt (by simp))
        have hbx2 := hfa.keep HC.out.bx (by simp)
        have hls2 : Secs (wr.alloc (.cells (cel s).toArray 91)) l n ls := by obtain ⟨lc, g1, _⟩ := id HC.out.ls; exact HC.out.ls.keep (hfa.block _ (lt_of_heap g1) (by simp))
        have hrg2 : (wr.alloc (.cells (cel s).toArray 91)).rangeAt wr.heap.size 0 (cel s) := rangeAt_new _ _ _ _ rfl
        have HRG := Lib.hid hrg2; have HCH := Lib.hid hch2; have HMP := Lib.hid hmp2; clear hrg2 hch2 hmp2
        have HBX := Lib.hid hbx2; have HFA := Lib.hid hfa; have HLS := Lib.hid hls2; clear hbx2 hfa hls2
        go_wp2_with (first
          | (at_lookup; refine wL_lookup rfl _ _ 90 rfl 3 91 Try.underlying90 Try.underlying3 _ Try.zero65 m rfl z rfl _ HC.out.mp (some (.agg (cel s).toArray)) (by simp [HW.out, secV]) ?_)
          | (refine wL_allocW (o := ⟨some 9, .alloc 91, _, _, _, _⟩) rfl 91 rfl _ Try.zero65 ?_)
          | (refine wL_storeNew (o := ⟨none, .store 91 _ (.tmp 25), _, _, _, _⟩) rfl 91 _ _ rfl _ _ rfl rfl _ rfl _ ?c1 ?c2 ?c3 ?_)
          | (refine wL_loadMid (o := ⟨some 30, .load 91 (.tmp 9), _, _, _, _⟩) rfl 91 (.tmp 9) rfl wr.heap.size 0 ?lx (cel s) HRG.out 64 5 Try.underlying91 ?ly ?_)
          | (at_mapUpdate; refine wL_mapUpdate rfl _ _ _ _ rfl 3 91 Try.underlying90 Try.underlying3 w.heap.size rfl z rfl _ rfl _ HCH.out ?_)
          | fail)
        case c1 => simp [Try.size65, cel_length, HS.out]
        case c2 => simp [zcells_size, cel_length, HS.out]
        case c3 => exact all_oneCell_toArray (cel_one s)
        case lx => rfl
        case ly => rw [cel_length, HS.out]; exact Try.size65
        have hbx2 := HBX.out; have hfa := HFA.out; have hls2 := HLS.out
        intro w3 hfr3 hch3
        have hbx3 := hfr3.keep hbx2 (by simpa using Ne.symm hqp)
        have hls3 : Secs w3 l n ls := by obtain ⟨lc, g1, _⟩ := id hls2; exact hls2.keep (hfr3.block _ (lt_of_heap g1) (by simpa using Ne.symm hql))
        have hmp3 : IMap w3 m (fun j => (without wt zs k j).map secV) := HMP.out.keep (hfr3.block _ HMP.out.lt (by simpa using Ne.symm hqm))
        have hc3 := box_cell hbx3
        have HCH3 := Lib.hid hch3; have HMP3 := Lib.hid hmp3; clear hch3 hmp3 hc hck
        go_wp2_with (first
          | (at_delete; refine wL_delete rfl _ _ _ _ rfl 3 91 Try.underlying90 Try.underlying3 m rfl z rfl _ HMP3.out ?_)
          | fail)
        intro w4 hfr4 hmp4
        have hnext : Crashing w p l m n #[.slice (some ⟨l, 0, none⟩) n q, .map (some m), .int .i64 c, .int .i64 f, .bool d] ls wt zs (k + 1) w4 := by
          refine ⟨hfr4.keep hbx3 (by simpa using hpm), ?_, ?_, ?_, ?_⟩
          · obtain ⟨lc, g1, _⟩ := id hls3
            exact hls3.keep (hfr4.block _ (lt_of_heap g1) (by simpa using hlm))
          · rw [HE2.out, ← HZE.out, ← map_ifn secV (without wt zs k) z]; exact hmp4
          · rw [HE1.out, ← HZE.out, ← map_if secV (among wt zs k) z s]
            exact HCH3.out.keep (hfr4.block _ HCH3.out.lt (by simpa using hqm))
          · exact ((HC.out.fr.trans_new hfa (by simp)).trans_new hfr3 (by simp)).trans hfr4
        have HN := Lib.hid hnext
        clear hnext hmp4 hfr4 hfr3 hls3 hbx3 hc3 hls2 hbx2 hfa
        try go_frame
        go_wp2_with fail
        go_roundw
        case rel => exact ⟨k + 1, by omega, by go_num, HN.out⟩
        case measure => simp [intOf]; omega
    · obtain rfl : k = len := by omega
      cases flip with
      | true =>
        have hd : DevAt wr p l m n q c f d ls (without wt zs k) := ⟨hC.bx, hC.ls, hC.mp, fun i s hs => HD.out.dom i s (by unfold without at hs; split at hs; cases hs; exact hs), hpl, hnb⟩
        have hfrw := hC.fr
        clear hC
        go_wp2_with fail
        refine (settle_calls wr p l m n q c f d ls _ hd).mono ?_
        rintro e w2 ⟨rfl, hfr2, hd2⟩
        have hc2 := box_cell hd2.box; have hf2 := box_free hd2.box
        have hbx := box_set (box_set hd2.box 4 (.bool false)) 3 (.int .i64 (-1))
        have hfr3 : Fr [p] w2 ((w2.setCell ⟨p, 4, none⟩ (.bool false)).setCell ⟨p, 3, none⟩ (.int .i64 (-1))) := ((Fr.refl _ _).setCell (.inl (by simp)) _).setCell (.inl (by simp)) _
        have hd3 := hd2.reboxed hfr3 hbx
        have HD3 := Lib.hid hd3
        clear hd hd2 hd3 hbx hc
        go_wp2_with fail
        go_end0
        exact ⟨rfl, ((hfrw.mono (by simp)).trans (hfr2.mono (by simp))).trans (hfr3.mono (by simp)), m, .inl rfl, HD3.out⟩
      | false =>
        have hf := box_free hC.bx
        have hqp : w.heap.size ≠ p := by omega
        have hql : w.heap.size ≠ l := by omega
        have hfr1 : Fr [p] wr (wr.setCell ⟨p, 1, none⟩ (.map (some w.heap.size))) := (Fr.refl _ _).setCell (.inl (by simp)) _
        have hd : DevAt (wr.setCell ⟨p, 1, none⟩ (.map (some w.heap.size))) p l w.heap.size n q c f d ls (among wt zs k) := by
          refine ⟨box_set hC.bx 1 _, ?_, hC.ch.keep (hfr1.block _ hC.ch.lt (by simpa using hqp)), fun i s hs => HD.out.dom i s (by unfold among at hs; split at hs; exact hs; cases hs), hpl, hnb⟩
          obtain ⟨lc, g1, _⟩ := id hC.ls
          exact hC.ls.keep (hfr1.block _ (lt_of_heap g1) (by simpa using Ne.symm hpl))
        have hfrw := hC.fr
        clear hC
        go_wp2_with fail
        refine (settle_calls _ p l w.heap.size n q c f d ls _ hd).mono ?_
        rintro e w2 ⟨rfl, hfr2, hd2⟩
        have hc2 := box_cell hd2.box; have hf2 := box_free hd2.box
        have hbx := box_set (box_set hd2.box 4 (.bool false)) 3 (.int .i64 (-1))
        have hfr3 : Fr [p] w2 ((w2.setCell ⟨p, 4, none⟩ (.bool false)).setCell ⟨p, 3, none⟩ (.int .i64 (-1))) := ((Fr.refl _ _).setCell (.inl (by simp)) _).setCell (.inl (by simp)) _
        have hd3 := hd2.reboxed hfr3 hbx
        have HD3 := Lib.hid hd3
        clear hd hd2 hd3 hbx hc hf
        go_wp2_with fail
        go_end0
        exact ⟨rfl, (((hfrw.mono (by simp)).trans (hfr1.mono (by simp))).trans_new hfr2 (by simp)).trans (hfr3.mono (by simp)), w.heap.size, .inr (Nat.le_refl _), HD3.out⟩
end Go.Proofs.Ytoifpbifipgpkaa
