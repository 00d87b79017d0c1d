/-
  wal: maps.Copy of a change.
-/
import Derived.Test.YtoifpbifipgpkaaWal12
namespace Go.Proofs.Ytoifpbifipgpkaa
open Go.RowKit Go.MapKept
/-- A change laid over another one. -/
def over (D S : Int → Option (List UInt8)) (i : Int) : Option (List UInt8) := (S i).or (D i)
open Classical in
/-- Some of a change laid over another one: of its entries those that have been seen. -/
noncomputable def laidM (D S : Int → Option (List UInt8)) (es : Array MapEntry) (seen : Array Nat) (i : Int) : Option (List UInt8) :=
  if ∃ e ∈ es.toList, e.key = .int .i64 i ∧ seen.contains e.born = true then (S i).or (D i) else D i
theorem laidM_none (D S : Int → Option (List UInt8)) (es : Array MapEntry) : laidM D S es #[] = D := by
  funext i
  unfold laidM
  rw [if_neg]
  rintro ⟨e, _, _, h⟩
  simp at h
theorem laidM_push {D S : Int → Option (List UInt8)} {es : Array MapEntry} {clk : Nat} (hst : Stamped es clk) {seen : Array Nat} {e : MapEntry} (he : e ∈ es.toList) {i : Int} (hk : e.key = .int .i64 i) {s : List UInt8} (hw : S i = some s) :
    (fun j => if j = i then some (secV s) else (laidM D S es seen j).map secV) = fun j => (laidM D S es (seen.push e.born) j).map secV := by
  funext j
  by_cases hj : j = i
  · subst hj
    rw [if_pos rfl]
    unfold laidM
    rw [if_pos ⟨e, he, hk, by rw [contains_push]; simp⟩, hw]; rfl
  · rw [if_neg hj]
    unfold laidM
    congr 2
    apply propext
    constructor
    · rintro ⟨x, hx, hxk, hc⟩
      exact ⟨x, hx, hxk, by rw [contains_push, hc]; rfl⟩
    · rintro ⟨x, hx, hxk, hc⟩
      refine ⟨x, hx, hxk, ?_⟩
      rw [contains_push] at hc
      rcases Bool.or_eq_true _ _ ▸ hc with h | h
      · exact h
      · have : x = e := born_inj hst.2.1 hx he (by simpa using h)
        subst this
        rw [hk] at hxk
        simp at hxk
        exact absurd hxk.symm hj
theorem laidM_all {D S : Int → Option (List UInt8)} {es : Array MapEntry} {clk : Nat} (hh : Holds es clk (fun i => (S i).map secV)) {seen : Array Nat} (h0 : toCome es seen = 0) :
    laidM D S es seen = over D S := by
  funext i
  unfold laidM over
  by_cases h : ∃ e ∈ es.toList, e.key = .int .i64 i ∧ seen.contains e.born = true
  · rw [if_pos h]
  · rw [if_neg h]
    cases hw : S i with
    | none => rfl
    | some s =>
      exfalso
      obtain ⟨x, hx, hk, _⟩ := hh.from_ i (secV s) (by simp [hw])
      exact h ⟨x, hx, by rw [hh.key x hx, hk], all_seen es seen h0 x hx⟩
/-- What holds at each round's head. -/
structure Laying (w : World) (md ms r : Nat) (D S : Int → Option (List UInt8)) (es : Array MapEntry) (clk : Nat) (seen : Array Nat) (wr : World) : Prop where
  it : wr.heap[r]? = some (.mapIter (some ms) clk seen clk)
  mp : wr.heap[ms]? = some (.map es clk)
  im : IMap wr md (fun i => (laidM D S es seen i).map secV)
  fr : Fr [md] w wr
  ge : w.heap.size ≤ r
theorem Laying.seen {w : World} {md ms r : Nat} {D S : Int → Option (List UInt8)} {es : Array MapEntry} {clk : Nat} {seen : Array Nat} {wr : World} (h : Laying w md ms r D S es clk seen wr) : wr.iterSeen r = seen := by
  unfold World.iterSeen
  rw [h.it]
set_option maxRecDepth 100000 in
set_option maxHeartbeats 1000000 in
theorem copy_calls (w : World) (md ms n : Nat) (D S : Int → Option (List UInt8)) (hD : ChAt w md n D) (hS : ChAt w ms n S) (hne : md ≠ ms) :
    Calls Try.prog 58 #[.map (some md), .map (some ms)] w fun e w' => e = .returned (.tuple #[]) ∧ Fr [md] w w' ∧ ChAt w' md n (over D S) := by
  obtain ⟨es, clk, hb, hh⟩ := hS.map
  have hms := lt_of_heap hb
  have hmd := hD.map.lt
  have hdom : ∀ i s, over D S i = some s → 0 ≤ i ∧ i + 300 < n ∧ s.length = 64 := fun i s h => by
    unfold over at h
    cases hw : S i with
    | some t => rw [hw] at h; cases h; exact hS.dom i s hw
    | none => rw [hw] at h; exact hD.dom i s (by simpa using h)
  have hstart : Laying w md ms w.heap.size D S es clk #[] (w.alloc (.mapIter (some ms) clk #[] clk)) :=
    ⟨heap_alloc_new _ _, by rw [heap_alloc_old _ _ _ hms]; exact hb, by rw [laidM_none]; exact hD.map.keep (heap_alloc_old _ _ _ hmd), (Fr.refl _ _).alloc _, Nat.le_refl _⟩
  have hsd := hS.dom
  have HH := Lib.hid hh; have HB := Lib.hid hb; have HST := Lib.hid hstart; have HDOM := Lib.hid hdom; have HSD := Lib.hid hsd
  clear hh hb hD hS hstart hdom hsd
  go_enter Try.func58, Try.ntmps58
  go_wp2_with (first
    | (at_range; refine wL_range rfl _ _ rfl 3 82 Try.underlying85 ms rfl es clk HB.out ?_)
    | fail)
  go_frame
  go_loopw [4] (fun _ wr => ∃ seen, Laying w md ms w.heap.size D S es clk seen wr) (fun _ wr => toCome es (wr.iterSeen w.heap.size))
  case atStart => exact ⟨_, HST.out⟩
  case round =>
    clear HST HB
    obtain ⟨seen, hS⟩ := hrel
    rw [hS.seen]
    go_wp2_with (first
      | (at_next; refine wL_next rfl _ rfl w.heap.size ms rfl es clk seen hS.it hS.mp HH.out.st ?h0 ?h1)
      | fail)
    case h0 =>
      intro h0
      have hall := laidM_all (D := D) HH.out h0
      have HS := Lib.hid hS; have HA := Lib.hid hall; clear hS hall h0
      go_wp2_with fail
      go_end0
      have h3 := HS.out.im
      rw [HA.out] at h3
      exact ⟨rfl, HS.out.fr, h3, HDOM.out⟩
    case h1 =>
      intro e w' he _ hlt hfr hit hmp
      have he' : e ∈ es.toList := by simpa using he
      obtain ⟨s, hwt, hval⟩ : ∃ s, S (kI e.key) = some s ∧ e.val = .agg (cel s).toArray := by
        have h1 := HH.out.to e he'
        cases hw : S (kI e.key) with
        | none => simp [hw] at h1
        | some s => simp [hw] at h1; exact ⟨s, rfl, h1.symm⟩
      obtain ⟨_, _, hs64⟩ := HSD.out _ _ hwt
      have hkey : e.key = .int .i64 (kI e.key) := HH.out.key e he'
      obtain ⟨i, hi⟩ : ∃ i, kI e.key = i := ⟨_, rfl⟩
      rw [hi] at hkey hwt
      have hwge := hS.ge; have hwsz := hS.fr.size
      have hwr : wr.heap.size ≤ w'.heap.size := hfr.size
      have hrl := lt_of_heap hit
      obtain ⟨w2, hw2⟩ : ∃ w2, w'.alloc (.cells (cel s).toArray 82) = w2 := ⟨_, rfl⟩
      have hfr2 : Fr [w.heap.size] wr w2 := by rw [← hw2]; exact hfr.alloc _
      have hit2 : w2.heap[w.heap.size]? = some (.mapIter (some ms) clk (seen.push e.born) clk) := by
        rw [← hw2, heap_alloc_old _ _ _ (lt_of_heap hit)]; exact hit
      have hmp2 : w2.heap[ms]? = some (.map es clk) := by
        rw [← hw2, heap_alloc_old _ _ _ (lt_of_heap hmp)]; exact hmp
      have hrow2 : w2.heap[w'.heap.size]? = some (.cells (cel s).toArray 82 (0, 0)) := by rw [← hw2]; exact heap_alloc_new _ _
      have him2 : IMap w2 md (fun i => (laidM D S es seen i).map secV) := hS.im.keep (hfr2.block md (by omega) (by simp; omega))
      have hfz := hS.fr.trans_new hfr2 (by simp)
      have hpush := laidM_push (D := D) HH.out.st he' hkey hwt (seen := seen)
      have HW2 := Lib.hid hw2; have HIT := Lib.hid hit; have HMP := Lib.hid hmp; have HIT2 := Lib.hid hit2; have HMP2 := Lib.hid hmp2; have HROW := Lib.hid hrow2; have HIM := Lib.hid him2; have HFZ := Lib.hid hfz; have HP := Lib.hid hpush
      have HK := Lib.hid hkey; have HV := Lib.hid hval; have H64 := Lib.hid hs64; have HLT := Lib.hid hlt
      clear hw2 hit hmp hit2 hmp2 hrow2 him2 hfz hpush hkey hval hs64 hlt hS hfr hfr2 hwt hi he
      go_wp2_with (first
        | (refine wL_entry (o := ⟨some 10, .entry _, _, _, _, _⟩) rfl _ rfl w.heap.size ms rfl es clk seen e HIT.out HMP.out HH.out.st he' _ _ HK.out HV.out ?_)
        | (refine wL_allocW (o := ⟨some 5, .alloc 82, _, _, _, _⟩) rfl 82 rfl _ Try.zeroWS ?_)
        | (refine wL_storeNew (o := ⟨none, .store 82 _ (.tmp 12), _, _, _, _⟩) rfl 82 _ _ rfl _ _ rfl ?c0 _ rfl _ ?c1 ?c2 ?c3 ?_)
        | ((with_reducible_and_instances refine id (α := wpList _ _ _ (⟨some 15, .load 82 (.tmp 5), _, _, _, _⟩ :: _) _ _) ?_); refine wpList_load_row rfl 82 (.tmp 5) rfl w'.heap.size rfl 82 (cel s).toArray (0, 0) _ (heap_alloc_new _ _) Try.underlying82 rfl (by rw [Try.sizeWS]; simp [cel_length, H64.out]) ?_)
        | ((with_reducible_and_instances refine id (α := wpList _ _ _ (⟨none, .mapUpdate 85 _ _ _, _, _, _, _⟩ :: _) _ _) ?_); refine wL_mapUpdate rfl _ _ _ _ rfl 3 82 Try.underlying85 Try.underlying3 md rfl i rfl (secV s) rfl _ (by rw [HW2.out]; exact HIM.out) ?_)
        | fail)
      case c0 => rfl
      case c1 => rw [Try.sizeWS]; simp [cel_length, H64.out]
      case c2 => simp [zcells_size, cel_length, H64.out]
      case c3 => exact all_oneCell_toArray (cel_one s)
      intro w3 hf3 hm3
      rw [HW2.out] at hf3
      have hS3 : Laying w md ms w.heap.size D S es clk (seen.push e.born) w3 :=
        ⟨hf3.keep HIT2.out (by simp; omega), hf3.keep HMP2.out (by simp; omega), by rw [HP.out] at hm3; exact hm3, HFZ.out.trans hf3, Nat.le_refl _⟩
      have H3 := Lib.hid hS3; clear hf3 hm3 hS3
      go_wp2_with fail
      go_roundw
      case rel => exact ⟨_, H3.out⟩
      case measure => rw [H3.out.seen]; exact HLT.out
end Go.Proofs.Ytoifpbifipgpkaa
