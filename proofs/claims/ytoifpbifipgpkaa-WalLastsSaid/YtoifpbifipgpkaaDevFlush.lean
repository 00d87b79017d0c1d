/-
  settle: what waits is laid down.
-/
import Derived.Test.YtoifpbifipgpkaaDev
import Derived.RegionTactic
import Derived.BigRegion
import Derived.Deep.LoopGhost
namespace Go.Proofs.Ytoifpbifipgpkaa
open Go.RowKit Go.MapKept
open Classical in
/-- What lies in each sector when some of what waits has been laid down: of the entries those that have been seen. -/
noncomputable def laid (ls : Nat → List UInt8) (wt : Int → Option (List UInt8)) (es : Array MapEntry) (seen : Array Nat) (i : Nat) : List UInt8 :=
  if ∃ e ∈ es.toList, e.key = .int .i64 i ∧ seen.contains e.born = true then (wt i).getD (ls i) else ls i
theorem laid_none (ls : Nat → List UInt8) (wt : Int → Option (List UInt8)) (es : Array MapEntry) : laid ls wt es #[] = ls := by
  funext i
  unfold laid
  rw [if_neg]
  rintro ⟨e, _, _, h⟩
  simp at h
theorem laid_push {ls : Nat → List UInt8} {wt : Int → Option (List UInt8)} {es : Array MapEntry} {clk : Nat} (hst : Stamped es clk) {seen : Array Nat} {e : MapEntry} (he : e ∈ es.toList) {i : Nat} (hk : e.key = .int .i64 i) {s : List UInt8} (hw : wt i = some s) :
    laid ls wt es (seen.push e.born) = fun j => if j = i then s else laid ls wt es seen j := by
  funext j
  by_cases hj : j = i
  · subst hj
    rw [if_pos rfl]
    unfold laid
    rw [if_pos ⟨e, he, hk, by rw [contains_push]; simp⟩, hw]; rfl
  · rw [if_neg hj]
    unfold laid
    congr 1
    apply propext
    constructor
    · rintro ⟨x, hx, hxk, hc⟩
      refine ⟨x, hx, hxk, ?_⟩
      rw [contains_push] at hc
      rcases Bool.or_eq_true _ _ ▸ hc with h | h
      · exact h
      · have : x = e := born_inj hst.2.1 hx he (by simpa using h)
        subst this
        rw [hk] at hxk
        simp at hxk
        exact absurd (by omega) hj
    · rintro ⟨x, hx, hxk, hc⟩
      exact ⟨x, hx, hxk, by rw [contains_push, hc]; rfl⟩
theorem laid_all {ls : Nat → List UInt8} {wt : Int → Option (List UInt8)} {es : Array MapEntry} {clk : Nat} (hh : Holds es clk (fun i => (wt i).map secV)) {seen : Array Nat} (h0 : toCome es seen = 0) :
    laid ls wt es seen = fun i : Nat => (wt (i : Int)).getD (ls i) := by
  funext i
  unfold laid
  by_cases h : ∃ e ∈ es.toList, e.key = .int .i64 i ∧ seen.contains e.born = true
  · rw [if_pos h]
  · rw [if_neg h]
    cases hw : wt i with
    | none => rfl
    | some s =>
      exfalso
      obtain ⟨x, hx, hk, _⟩ := hh.from_ i (secV s) (by simp [hw])
      exact h ⟨x, hx, by rw [hh.key x hx, hk], all_seen es seen h0 x hx⟩
/-- What holds at each round's head. -/
structure Settling (w : World) (p l m n : Nat) (bx : Array Value) (r : Nat) (ls : Nat → List UInt8) (wt : Int → Option (List UInt8)) (es : Array MapEntry) (clk : Nat) (seen : Array Nat) (wr : World) : Prop where
  it : wr.heap[r]? = some (.mapIter (some m) clk seen clk)
  mp : wr.heap[m]? = some (.map es clk)
  bx : wr.heap[p]? = some (.cells bx 95 (0, 0))
  ls : Secs wr l n (laid ls wt es seen)
  fr : Fr [l] w wr
  ge : w.heap.size ≤ r
theorem Settling.seen {w : World} {p l m n : Nat} {bx : Array Value} {r : Nat} {ls : Nat → List UInt8} {wt : Int → Option (List UInt8)} {es : Array MapEntry} {clk : Nat} {seen : Array Nat} {wr : World} (h : Settling w p l m n bx r ls wt es clk seen wr) : wr.iterSeen r = seen := by
  unfold World.iterSeen
  rw [h.it]
set_option maxRecDepth 100000 in
set_option maxHeartbeats 1000000 in
theorem settle_calls (w : World) (p l m n q : Nat) (c f : Int) (d : Bool) (ls : Nat → List UInt8) (wt : Int → Option (List UInt8)) (h : DevAt w p l m n q c f d ls wt) :
    Calls Try.prog 43 #[.pointer (some ⟨p, 0, none⟩)] w fun e w' => e = .returned (.tuple #[]) ∧ Fr [l, m] w w' ∧ DevAt w' p l m n q c f d (fun i : Nat => (wt (i : Int)).getD (ls i)) (fun _ => none) := by
  have hc := box_cell h.box
  obtain ⟨es, clk, hb, hh⟩ := h.wai
  have hpl := h.pl; have hpm := h.pm; have hlm := h.lm; have hnb := h.nb
  have hp := lt_of_heap h.box
  have hm := lt_of_heap hb
  have hl : l < w.heap.size := by obtain ⟨lc, h1, _⟩ := h.las; exact lt_of_heap h1
  have hstart : Settling w p l m n _ w.heap.size ls wt es clk #[] (w.alloc (.mapIter (some m) clk #[] clk)) :=
    ⟨heap_alloc_new _ _, by rw [heap_alloc_old _ _ _ hm]; exact hb, by rw [heap_alloc_old _ _ _ hp]; exact h.box, by rw [laid_none]; exact h.las.keep (heap_alloc_old _ _ _ hl), (Fr.refl _ _).alloc _, Nat.le_refl _⟩
  have HH := Lib.hid hh; have HB := Lib.hid hb; have HD := Lib.hid h; have HST := Lib.hid hstart; clear hh hb h hstart
  go_enter Try.func43, Try.ntmps43
  go_wp2_with (first
    | (at_range; refine wL_range rfl _ _ rfl 3 91 Try.underlying90 m rfl es clk HB.out ?_)
    | fail)
  go_frame
  go_loopw [2] (fun _ wr => ∃ seen, Settling w p l m n #[.slice (some ⟨l, 0, none⟩) n q, .map (some m), .int .i64 c, .int .i64 f, .bool d] w.heap.size ls wt es clk seen wr) (fun _ wr => toCome es (wr.iterSeen w.heap.size))
  case atStart => exact ⟨_, HST.out⟩
  case round =>
    obtain ⟨seen, hS⟩ := hrel
    rw [hS.seen]
    go_wp2_with (first
      | (at_next; refine wL_next rfl _ rfl w.heap.size m rfl es clk seen hS.it hS.mp HH.out.st ?h0 ?h1)
      | fail)
    case h0 =>
      intro h0
      have hc1 := box_cell hS.bx
      have hall := laid_all (ls := ls) HH.out h0
      have HS := Lib.hid hS; have HA := Lib.hid hall; clear hS hall hc h0
      go_wp2_with (first
        | (refine wL_clear (o := ⟨none, .call _, _, _, _, _⟩) rfl _ _ rfl 3 91 Try.underlying90 m rfl _ ⟨es, clk, HS.out.mp, HH.out⟩ ?_)
        | fail)
      intro w2 hfr2 hmap2
      go_wp2_with fail
      go_end0
      refine ⟨rfl, (HS.out.fr.mono (by simp)).trans (hfr2.mono (by simp)), hfr2.keep HS.out.bx (by simpa using hpm), ?_, hmap2, by simp, hpl, hnb⟩
      have h3 := HS.out.ls
      rw [HA.out] at h3
      obtain ⟨lc, h4, _⟩ := id h3
      exact h3.keep (hfr2.block l (lt_of_heap h4) (by simpa using hlm))
    case h1 =>
      intro e w' he _ hlt hfr hit hmp
      have he' : e ∈ es.toList := by simpa using he
      obtain ⟨s, hwt, hval⟩ : ∃ s, wt (kI e.key) = some s ∧ e.val = .agg (cel s).toArray := by
        have h1 := HH.out.to e he'
        cases hw : wt (kI e.key) with
        | none => simp [hw] at h1
        | some s => simp [hw] at h1; exact ⟨s, rfl, h1.symm⟩
      obtain ⟨hk0, hk1, hs64⟩ := HD.out.dom _ _ hwt
      obtain ⟨i, hi⟩ := Int.eq_ofNat_of_zero_le hk0
      have hkey : e.key = .int .i64 (i : Int) := by rw [HH.out.key e he', hi]
      have hin : i < n := by omega
      have hwr : wr.heap.size ≤ w'.heap.size := hfr.size
      have hwge := hS.ge; have hwsz := hS.fr.size
      obtain ⟨w2, hw2⟩ : ∃ w2, w'.alloc (.cells (cel s).toArray 91) = w2 := ⟨_, rfl⟩
      have hfr2 : Fr [w.heap.size] wr w2 := by rw [← hw2]; exact hfr.alloc _
      have hbx2 := hfr2.keep hS.bx (by simp; omega)
      have hls2 : Secs w2 l n (laid ls wt es seen) := hS.ls.keep (hfr2.block l (by omega) (by simp; omega))
      have hit2 : w2.heap[w.heap.size]? = some (.mapIter (some m) clk (seen.push e.born) clk) := by
        rw [← hw2, heap_alloc_old _ _ _ (lt_of_heap hit)]; exact hit
      have hmp2 : w2.heap[m]? = some (.map es clk) := by
        rw [← hw2, heap_alloc_old _ _ _ (lt_of_heap hmp)]; exact hmp
      have hrg2 : w2.rangeAt w'.heap.size 0 (cel s) := by rw [← hw2]; exact rangeAt_new _ _ _ _ rfl
      have hS2 : Settling w p l m n #[.slice (some ⟨l, 0, none⟩) n q, .map (some m), .int .i64 c, .int .i64 f, .bool d] w.heap.size ls wt es clk (seen.push e.born) (w2.drew.setCells l (i * 64) (cel s)) := by
        have e1 := setCells_eq l (cel s) (i * 64) w2.drew
        refine ⟨by rw [e1.1 _ (by omega)]; exact hit2, by rw [e1.1 _ (Ne.symm hlm)]; exact hmp2, by rw [e1.1 _ hpl]; exact hbx2, ?_, ?_, Nat.le_refl _⟩
        · rw [laid_push HH.out.st he' hkey (by rw [← hi]; exact hwt)]
          exact (hls2.keep (w' := w2.drew) rfl).set hin hs64
        · exact ((hS.fr.trans_new (hfr2.drew) (by simp)).setCells (.inl (by simp)))
      have hth : w2.drew.there l (i * 64) 64 := (hls2.keep (w' := w2.drew) rfl).there hin
      have hc2 := box_cell hbx2
      have HW2 := Lib.hid hw2; have HIT := Lib.hid hit; have HMP := Lib.hid hmp; have HS2 := Lib.hid hS2; have HTH := Lib.hid hth; have HRG := Lib.hid hrg2
      have HK := Lib.hid hkey; have HV := Lib.hid hval; have H64 := Lib.hid hs64; have HLT := Lib.hid hlt
      clear hw2 hit hmp hS2 hth hrg2 hkey hval hs64 hlt hS hfr hfr2 hbx2 hls2 hit2 hmp2 hwt hi hk0 hk1 hc he
      go_wp2_with (first
        | (refine wL_entry (o := ⟨some 11, .entry _, _, _, _, _⟩) rfl _ rfl w.heap.size m rfl es clk seen e HIT.out HMP.out HH.out.st he' _ _ HK.out HV.out ?_)
        | (refine wL_allocW (o := ⟨some 3, .alloc 91, _, _, _, _⟩) rfl 91 rfl _ Try.zero65 ?_)
        | (refine wL_storeNew (o := ⟨none, .store 91 _ (.tmp 13), _, _, _, _⟩) rfl 91 _ _ rfl _ _ rfl ?c0 _ rfl _ ?c1 ?c2 ?c3 ?_)
        | fail)
      case c0 => rfl
      case c1 => simp [Try.size65, cel_length, H64.out]
      case c2 => simp [zcells_size, cel_length, H64.out]
      case c3 => exact all_oneCell_toArray (cel_one s)
      rw [HW2.out]
      go_wp2_with fail
      go_frame
      go_still_tail 7, (by kernel_rfl)
      change wpStill _ _ w2.drew _ _ _
      refine wpStill_loadMid rfl _ _ rfl w'.heap.size 0 rfl (cel s) HRG.out 64 5 Try.underlying91 (by rw [cel_length, H64.out]; exact Try.size65) ?_
      still_step
      refine wpStill_nil ?_
      refine wpList_store_mid rfl _ _ _ rfl l (i * 64) (cel s).toArray rfl rfl ?t1 ?t2 ?t3 ?_
      case t1 => simpa [cel_length, H64.out] using HTH.out
      case t2 => simp [Try.size65, cel_length, H64.out]
      case t3 => exact all_oneCell_toArray (cel_one s)
      obtain ⟨w3, hw3⟩ : ∃ w3, w2.drew.setCells l (i * 64) (cel s) = w3 := ⟨_, rfl⟩
      change wpList _ _ _ _ _ (w2.drew.setCells l (i * 64) (cel s))
      rw [hw3]
      have h3 := HS2.out
      rw [hw3] at h3
      have H3 := Lib.hid h3; clear h3 hw3
      go_frame
      go_wp2_with fail
      go_roundw
      case rel => exact ⟨_, H3.out⟩
      case measure => rw [H3.out.seen]; exact HLT.out
set_option maxRecDepth 100000 in
set_option maxHeartbeats 400000 in
theorem flush_dead (w : World) (p l m n q : Nat) (c f : Int) (ls : Nat → List UInt8) (wt : Int → Option (List UInt8)) (h : DevAt w p l m n q c f true ls wt) :
    Calls Try.prog 51 #[.pointer (some ⟨p, 0, none⟩)] w fun e w' => e = .returned (.int .i64 50) ∧ w = w' := by
  have hc := box_cell h.box; clear h
  go_enter Try.func51, Try.ntmps51
  go_wp2
  go_ret
  exact ⟨rfl, rfl⟩
set_option maxRecDepth 100000 in
set_option maxHeartbeats 400000 in
theorem flush_burnt (w : World) (p l m n q : Nat) (c : Int) (ls : Nat → List UInt8) (wt : Int → Option (List UInt8)) (h : DevAt w p l m n q c 0 false ls wt) (hcb : 0 ≤ c ∧ c < 9000000000000000000) :
    Calls Try.prog 51 #[.pointer (some ⟨p, 0, none⟩)] w fun e w' => e = .returned (.int .i64 50) ∧ Fr [p] w w' ∧ DevAt w' p l m n q c 0 true ls wt := by
  have hc := box_cell h.box
  go_enter Try.func51, Try.ntmps51
  go_wp2_with fail
  refine (spend_calls p l n q m c 0 false w hcb (by decide) h.box).mono ?_
  rintro e w1 ⟨rfl, hfr, hb⟩
  have hd : DevAt w1 p l m n q c 0 true ls wt := h.reboxed hfr (by simpa [spent] using hb)
  clear hb hc h
  go_wp2_with fail
  go_ret
  exact ⟨rfl, hfr, hd⟩
set_option maxRecDepth 100000 in
set_option maxHeartbeats 400000 in
theorem flush_ok (w : World) (p l m n q : Nat) (c f : Int) (ls : Nat → List UInt8) (wt : Int → Option (List UInt8)) (h : DevAt w p l m n q c f false ls wt) (hcb : 0 ≤ c ∧ c < 9000000000000000000) (hfb : -9223372036854775808 ≤ f ∧ f ≤ 9223372036854775807) (hf0 : f ≠ 0) :
    Calls Try.prog 51 #[.pointer (some ⟨p, 0, none⟩)] w fun e w' => e = .returned (.int .i64 0) ∧ Fr [p, l, m] w w' ∧ DevAt w' p l m n q (c + 1) (burnF f) false (fun i : Nat => (wt (i : Int)).getD (ls i)) (fun _ => none) := by
  have hc := box_cell h.box
  have HF := Lib.hid hf0; clear hf0
  go_enter Try.func51, Try.ntmps51
  go_wp2_with fail
  refine (spend_calls p l n q m c f false w hcb hfb h.box).mono ?_
  rintro e w1 ⟨he, hfr, hb⟩
  rw [if_neg HF.out] at he
  subst he
  have hd : DevAt w1 p l m n q (c + 1) (burnF f) false ls wt := h.reboxed hfr (by rw [spent_ne HF.out] at hb; exact hb)
  clear hb hc h
  go_wp2_with fail
  refine (settle_calls w1 p l m n q (c + 1) (burnF f) false ls wt hd).mono ?_
  rintro e w2 ⟨rfl, hfr2, hd2⟩
  go_wp2_with fail
  go_ret
  exact ⟨rfl, (hfr.mono (by simp)).trans (hfr2.mono (by simp)), hd2⟩
end Go.Proofs.Ytoifpbifipgpkaa
