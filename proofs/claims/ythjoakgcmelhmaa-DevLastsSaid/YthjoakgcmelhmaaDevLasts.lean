/-
  For any lists and any crash, DevLasts returns true and leaves its arguments as they were.
-/
import Derived.Test.YthjoakgcmelhmaaRows
import Derived.Test.YthjoakgcmelhmaaDevUse
import Derived.Test.YthjoakgcmelhmaaDevWait
import Derived.ProofKit
import Derived.OpenShut
import Derived.ShutString
import Derived.ChangeOld
import Derived.Below
import Derived.Deep.DeepCutAuto
import Derived.Deep.CutBlock
namespace Go.Proofs.Ythjoakgcmelhmaa.devLasts
open Go.ChangeShapes Go.WideShapes Go.ChangeAt Go.RowKit Go.MapKept
set_option linter.unusedVariables false
theorem own : ownKnob Try.prog.godebug = none := by kernel_rfl
theorem laidOut : laidOutB Try.prog = true := by kernel_rfl
/-- Eight ints. -/
def arr8 (f : Nat → Nat) : Array Value := ((List.range 8).map fun k => Value.int .i64 (f k : Int)).toArray
theorem arr8_zero : arr8 (fun _ => 0) = #[.int .i64 0, .int .i64 0, .int .i64 0, .int .i64 0, .int .i64 0, .int .i64 0, .int .i64 0, .int .i64 0] := rfl
theorem arr8_size (f : Nat → Nat) : (arr8 f).size = 8 := by simp [arr8]
theorem arr8_get (f : Nat → Nat) {k : Nat} (hk : k < 8) : (arr8 f)[k]? = some (.int .i64 (f k : Int)) := by simp [arr8, hk]
theorem arr8_set (f : Nat → Nat) {k : Nat} (hk : k < 8) (v : Nat) : (arr8 f).setIfInBounds k (.int .i64 (v : Int)) = arr8 (fun j => if j = k then v else f j) := by
  apply Array.ext_getElem?
  intro j
  by_cases hj : j < 8
  · by_cases e : k = j
    · subst e; simp [arr8, hj]
    · have e' : ¬ j = k := fun h => e h.symm
      simp [arr8, hj, e, e', Array.getElem?_setIfInBounds]
  · have e : k ≠ j := by omega
    simp [arr8, hj, e, Array.getElem?_setIfInBounds]
/-- The sector that a number stands for. -/
def sec (n : Nat) : List UInt8 := if n = 0 then zeros else bys n 64
theorem sec_length (n : Nat) : (sec n).length = 64 := by unfold sec; split; simp [zeros]; exact bys_length _ _
/-- The first loop. -/
structure Inv1 (w : World) (p l m bo bn : Nat) (i : Nat) (wr : World) (c : Int) (ls : Nat → List UInt8) (wt : Int → Option (List UInt8)) (f : Nat → Nat) : Prop where
  dev : DevAt wr p l m 8 8 c (-1) false ls wt
  fr : Fr [] w wr
  cb : 0 ≤ c ∧ c ≤ 2 * i
  old : wr.heap[bo]? = some (.cells (arr8 f) 56 (0, 0))
  now : wr.heap[bn]? = some (.cells (arr8 fun _ => 0) 56 (0, 0))
  sn : ∀ j, j < 8 → secNow ls wt j = sec (f j) ∧ f j ≤ 30
theorem Inv1.next {w : World} {p l m bo bn i : Nat} {wr w' : World} {c : Int} {ls : Nat → List UInt8} {wt : Int → Option (List UInt8)} {f : Nat → Nat} (h : Inv1 w p l m bo bn i wr c ls wt f) (hp : w.heap.size ≤ p) (hl : w.heap.size ≤ l) (hm : w.heap.size ≤ m)
    (hbo : w.heap.size ≤ bo) (hbn : bo < bn) (ho : bo ∉ [p, l, m]) (hn : bn ∉ [p, l, m]) {k : Nat} (hk : k < 8) (hi : i < 30)
    (hfr : Fr [p, l, m] wr w') (hd : DevAt w' p l m 8 8 (c + 1) (-1) false ls (wrote wt k (bys (i + 1) 64))) :
    Inv1 w p l m bo bn (i + 1) (w'.setCell ⟨bo, k, none⟩ (.int .i64 ((i : Int) + 1))) (c + 1) ls (wrote wt k (bys (i + 1) 64)) (fun j => if j = k then i + 1 else f j) := by
  have ho' := hfr.keep h.old ho
  have hn' := hfr.keep h.now hn
  have hs : Fr [bo] w' (w'.setCell ⟨bo, k, none⟩ (.int .i64 ((i : Int) + 1))) := (Fr.refl _ _).setCell (.inl (by simp)) _
  simp at ho hn
  refine ⟨hd.keep hs (by simp; omega) (by simp; omega) (by simp; omega), (h.fr.trans_new hfr (by intro x hx; simp at hx; omega)).trans_new hs (by intro x hx; simp at hx; omega), by have := h.cb; omega, ?_, hs.keep hn' (by simp; omega), ?_⟩
  · have e : ((i : Int) + 1) = ((i + 1 : Nat) : Int) := by omega
    rw [e, ← arr8_set f hk (i + 1)]
    exact box_set ho' k _
  · intro j hj
    obtain ⟨h1, h2⟩ := h.sn j hj
    by_cases e : j = k
    · subst e
      refine ⟨?_, by simp; omega⟩
      simp [secNow, wrote, sec]
    · refine ⟨?_, by simp [e]; exact h2⟩
      have e' : ¬ ((j : Int) = (k : Int)) := by omega
      have : secNow ls (wrote wt k (bys (i + 1) 64)) j = secNow ls wt j := by unfold secNow wrote; rw [if_neg e']
      rw [this, h1]; simp [e]
/-- The second loop. -/
structure Inv2 (w : World) (p l m bo bn : Nat) (LS : Nat → List UInt8) (f : Nat → Nat) (i : Nat) (wr : World) (c : Int) (wt : Int → Option (List UInt8)) (g : Nat → Nat) : Prop where
  dev : DevAt wr p l m 8 8 c (-1) false LS wt
  fr : Fr [] w wr
  cb : 0 ≤ c ∧ c ≤ 100 + 2 * i
  old : wr.heap[bo]? = some (.cells (arr8 f) 56 (0, 0))
  now : wr.heap[bn]? = some (.cells (arr8 g) 56 (0, 0))
  sn : ∀ j, j < 8 → secNow LS wt j = sec (g j) ∧ g j ≤ 130
theorem Inv2.next {w : World} {p l m bo bn i : Nat} {wr w' : World} {c : Int} {LS : Nat → List UInt8} {wt : Int → Option (List UInt8)} {f g : Nat → Nat} (h : Inv2 w p l m bo bn LS f i wr c wt g) (hp : w.heap.size ≤ p) (hl : w.heap.size ≤ l) (hm : w.heap.size ≤ m)
    (hbo : w.heap.size ≤ bo) (hbn : bo < bn) (ho : bo ∉ [p, l, m]) (hn : bn ∉ [p, l, m]) {k : Nat} (hk : k < 8) (hi : i < 30)
    (hfr : Fr [p, l, m] wr w') (hd : DevAt w' p l m 8 8 (c + 1) (-1) false LS (wrote wt k (bys (100 + i) 64))) :
    Inv2 w p l m bo bn LS f (i + 1) (w'.setCell ⟨bn, k, none⟩ (.int .i64 (100 + (i : Int)))) (c + 1) (wrote wt k (bys (100 + i) 64)) (fun j => if j = k then 100 + i else g j) := by
  have ho' := hfr.keep h.old ho
  have hn' := hfr.keep h.now hn
  have hs : Fr [bn] w' (w'.setCell ⟨bn, k, none⟩ (.int .i64 (100 + (i : Int)))) := (Fr.refl _ _).setCell (.inl (by simp)) _
  simp at ho hn
  refine ⟨hd.keep hs (by simp; omega) (by simp; omega) (by simp; omega), (h.fr.trans_new hfr (by intro x hx; simp at hx; omega)).trans_new hs (by intro x hx; simp at hx; omega), by have := h.cb; omega, hs.keep ho' (by simp; omega), ?_, ?_⟩
  · have e : (100 + (i : Int)) = ((100 + i : Nat) : Int) := by omega
    rw [e, ← arr8_set g hk (100 + i)]
    exact box_set hn' k _
  · intro j hj
    obtain ⟨h1, h2⟩ := h.sn j hj
    by_cases e : j = k
    · subst e
      refine ⟨?_, by simp; omega⟩
      simp [secNow, wrote, sec]
    · refine ⟨?_, by simp [e]; exact h2⟩
      have e' : ¬ ((j : Int) = (k : Int)) := by omega
      have : secNow LS (wrote wt k (bys (100 + i) 64)) j = secNow LS wt j := by unfold secNow wrote; rw [if_neg e']
      rw [this, h1]; simp [e]
theorem Try.zero56 (w : World) : (zeroValue 56).run Try.prog w = .ok (.agg (arr8 fun _ => 0)) w := by kernel_rfl
theorem Try.size56 : (Try.prog.info? 56).map (·.size) = some 8 := by kernel_rfl
theorem arr8_one (f : Nat → Nat) : (arr8 f).all (·.oneCell') = true := by
  rw [Array.all_eq_true_iff_forall_mem]
  intro v hv
  simp [arr8] at hv
  obtain ⟨k, _, rfl⟩ := hv
  rfl
theorem crashed {LS : Nat → List UInt8} {wt : Int → Option (List UInt8)} {f g : Nat → Nat} (h1 : ∀ j, j < 8 → LS j = sec (f j) ∧ f j ≤ 30) (h2 : ∀ j, j < 8 → secNow LS wt j = sec (g j) ∧ g j ≤ 130) (flip : Bool) (zs : List Int) (len : Nat) :
    ∀ k : Nat, k < 8 → ((if flip then without wt zs len else among wt zs len) (k : Int)).getD (LS k) = sec (if decide ((k : Int) ∈ zs.take len) != flip then g k else f k) ∧ f k ≤ 130 ∧ g k ≤ 130 := by
  intro k hk
  have e1 := (h1 k hk).1
  have e2 := (h2 k hk).1
  unfold secNow at e2; rw [e1] at e2
  refine ⟨?_, by have := (h1 k hk).2; omega, (h2 k hk).2⟩
  cases flip <;> by_cases hm : (k : Int) ∈ zs.take len <;> simp [without, among, hm, e1, e2]
set_option maxRecDepth 100000 in
set_option maxHeartbeats 4000000 in
theorem walk (a0 : Option Addr) (len0 cap0 : Nat) (z0 : List Int) (a1 : Option Addr) (len1 cap1 : Nat) (z1 : List Int) (a2 : Bool) (a3 : Option Addr) (len3 cap3 : Nat) (z3 : List Int) (w : World) (w0 : IsRow .i64 w a0 len0 cap0 z0) (w1 : IsRow .i64 w a1 len1 cap1 z1) (w3 : IsRow .i64 w a3 len3 cap3 z3) :
    Calls Try.prog 6 #[.slice a0 len0 cap0, .slice a1 len1 cap1, .bool a2, .slice a3 len3 cap3] w fun e w' => e = .returned (.bool true) ∧ Below w.heap.size w w' := by
  have hlen0 := w0.lt63; have hlen1 := w1.lt63; have hlen3 := w3.lt63
  have HR := Lib.hid w0; have HQ := Lib.hid w1; have HL := Lib.hid w3; clear w0 w1 w3
  go_enter Try.func6, Try.ntmps6
  go_wp2_with fail
  refine (new_ok w 8 (by decide)).mono ?_
  rintro e v1 ⟨p, l, m, rfl, hf1, hp, hl, hm, hd1⟩
  have hb1 : p < v1.heap.size ∧ l < v1.heap.size ∧ m < v1.heap.size := ⟨lt_of_heap hd1.box, by obtain ⟨lc, h1, _⟩ := hd1.las; exact lt_of_heap h1, hd1.wai.lt⟩
  have hz1 := hf1.size
  obtain ⟨bo, hbo⟩ : ∃ bo, bo = v1.heap.size := ⟨_, rfl⟩
  have hv2 : ((v1.alloc (.cells (arr8 fun _ => 0) 56)).alloc (.cells (arr8 fun _ => 0) 56)).heap[v1.heap.size + 1]? = some (.cells (arr8 fun _ => 0) 56 (0, 0)) := by
    have := heap_alloc_new (v1.alloc (.cells (arr8 fun _ => 0) 56)) (.cells (arr8 fun _ => 0) 56)
    simpa using this
  have hv1 : ((v1.alloc (.cells (arr8 fun _ => 0) 56)).alloc (.cells (arr8 fun _ => 0) 56)).heap[v1.heap.size]? = some (.cells (arr8 fun _ => 0) 56 (0, 0)) := by
    rw [heap_alloc_old _ _ _ (by simp)]; exact heap_alloc_new _ _
  have HST : Hid (Inv1 w p l m v1.heap.size (v1.heap.size + 1) 0 ((v1.alloc (.cells (arr8 fun _ => 0) 56)).alloc (.cells (arr8 fun _ => 0) 56)) 0 (fun _ => zeros) (fun _ => none) (fun _ => 0)) :=
    Lib.hid ⟨hd1.keep (((Fr.refl [] _).alloc _).alloc _) (by simp) (by simp) (by simp), (hf1.alloc _).alloc _, by omega, hv1, hv2, fun j _ => ⟨rfl, by omega⟩⟩
  clear hd1 hf1 hv1 hv2
  go_upto_block 0 with (first
    | (refine wL_allocW (o := ⟨some 11, .alloc 56, _, _, _, _⟩) rfl 56 rfl _ Try.zero56 ?_)
    | (refine wL_allocW (o := ⟨some 12, .alloc 56, _, _, _, _⟩) rfl 56 rfl _ Try.zero56 ?_))
  clear hbo
  go_cut [13] (fun _ wr => ∃ (i : Nat) (c : Int) (ls : Nat → List UInt8) (wt : Int → Option (List UInt8)) (f : Nat → Nat), Inv1 w p l m v1.heap.size (v1.heap.size + 1) i wr c ls wt f ∧ i ≤ 30)
  case first =>
    go_wp2_with fail
    go_loopw [13] (fun v wr => ∃ (i : Nat) (c : Int) (ls : Nat → List UInt8) (wt : Int → Option (List UInt8)) (f : Nat → Nat), i ≤ 30 ∧ v = .int .i64 i ∧ Inv1 w p l m v1.heap.size (v1.heap.size + 1) i wr c ls wt f) (fun v _ => 30 - (intOf v).toNat)
    case atStart => exact ⟨0, 0, _, _, _, by omega, rfl, HST.out⟩
    case round =>
      obtain ⟨i, c, ls, wt, f, hi, rfl, hI⟩ := hrel
      have hcb := hI.cb
      by_cases hlt : i < len0
      · by_cases h60 : i < 30
        · obtain ⟨kb, ko, rfl, hcw, hkb⟩ := HR.out.at hlt
          obtain ⟨z, hze⟩ : ∃ z, z0.getD i 0 = z := ⟨_, rfl⟩
          rw [hze] at hcw
          have hck := cell_fr hI.fr hcw (by simp)
          clear hcw hze
          have hD := hI.dev
          obtain ⟨k7, hk7, hk8⟩ : ∃ k7 : Nat, bits BinOp.and IntKind.i64 z 7 = (k7 : Int) ∧ k7 < 8 := ⟨(z % 8).toNat, by rw [mask7]; omega, by omega⟩
          go_wp2_with fail
          refine (bytes_at wr (i + 1) _ (by omega) (by omega)).mono ?_
          rintro e wB ⟨rfl, hfB⟩
          go_wp2_with (first | (refine wL_toBytes (o := ⟨some 54, .convert _ _ _, _, _, _, _⟩) rfl _ _ 5 _ rfl Try.underlying9 Try.underlying28 Try.underlying5 (bys (i + 1) 64) 64 (bys_length _ _) rfl ?_) | fail)
          intro cap wC hfC hsC hrC
          have hfW : Fr [] wr wC := hfB.trans hfC
          have hDC := hD.keep hfW (by simp) (by simp) (by simp)
          have hpB : p < wB.heap.size := Nat.lt_of_lt_of_le (lt_of_heap hD.box) hfB.size
          go_wp2_with fail
          refine (write_ok wC p l m 8 8 c (-1) _ _ hDC (by omega) (by omega) (by omega) k7 (by omega) wB.heap.size 0 cap (bys (i + 1) 64) (bys_length _ _) hrC (by omega)).mono ?_
          rintro e w3 ⟨rfl, hf3, hd3⟩
          rw [burnF_neg] at hd3
          have hfr3 : Fr [p, l, m] wr w3 := (hfW.mono (by simp)).trans (hf3.mono (by simp))
          have hbx3 := hfr3.keep hI.old (by simp; omega)
          have hcb3 : w3.cell? ⟨v1.heap.size, k7, none⟩ = some (.int .i64 (f k7 : Nat)) := by rw [box_cell hbx3, arr8_get _ hk8]
          have hfb3 := box_free hbx3 k7
          have HN := Lib.hid (hI.next hp hl hm (by omega) (by omega) (by simp; omega) (by simp; omega) hk8 h60 hfr3 hd3)
          clear hbx3 hd3 hfr3 hf3 hrC hDC hfW hfC hfB hD hI
          go_wp2_with fail
          go_roundw
          case rel => exact ⟨i + 1, c + 1, ls, _, _, by omega, by go_num, HN.out⟩
          case measure => simp [intOf]; omega
        · go_wp2_with fail
          go_meet
          exact ⟨i, c, ls, wt, f, hI, hi⟩
      · go_wp2_with fail
        go_meet
        exact ⟨i, c, ls, wt, f, hI, hi⟩
  case rest =>
    obtain ⟨i, c0, ls, wt, f, hI, hi⟩ := hcut
    have hcb0 := hI.cb
    go_wp2_with fail
    refine (flush_ok wc p l m 8 8 c0 (-1) ls wt hI.dev (by omega) (by decide) (by decide)).mono ?_
    rintro e w4 ⟨rfl, hf4, hd4⟩
    rw [burnF_neg] at hd4
    obtain ⟨LS, hLS⟩ : ∃ LS : Nat → List UInt8, LS = fun i : Nat => (wt (i : Int)).getD (ls i) := ⟨_, rfl⟩
    have hSN : ∀ j, j < 8 → LS j = sec (f j) ∧ f j ≤ 30 := by rw [hLS]; exact hI.sn
    rw [← hLS] at hd4
    have hold4 := hf4.keep hI.old (by simp; omega)
    have hnow4 := hf4.keep hI.now (by simp; omega)
    have hF4 : Fr [] w w4 := hI.fr.trans_new hf4 (by intro x hx; simp at hx; omega)
    have hf5 : Fr [v1.heap.size + 1] w4 (w4.setRow (v1.heap.size + 1) (arr8 f)) := (Fr.refl _ _).setRow (.inl (by simp))
    have HST2 : Hid (Inv2 w p l m v1.heap.size (v1.heap.size + 1) LS f 0 (w4.setRow (v1.heap.size + 1) (arr8 f)) (c0 + 1) (fun _ => none) f) := Lib.hid
      ⟨hd4.keep hf5 (by simp; omega) (by simp; omega) (by simp; omega), hF4.trans_new hf5 (by simp; omega), by omega, hf5.keep hold4 (by simp), setRow_heap _ _ _ _ _ _ hnow4, fun j hj => ⟨(hSN j hj).1, by have := (hSN j hj).2; omega⟩⟩
    have HO4 := Lib.hid hold4; have HN4 := Lib.hid hnow4; have HSN := Lib.hid hSN
    clear hI hd4 hLS hold4 hnow4 hF4 hf5 hf4 hSN
    go_upto_block 2 with (first
      | (refine wpList_load_row (o := ⟨some 64, .load 56 (.tmp 11), _, _, _, _⟩) rfl 56 (.tmp 11) rfl v1.heap.size ?lx 56 (arr8 f) (0, 0) (.array 8 3) HO4.out Try.underlying56 rfl ?ly ?_)
      | (refine wL_storeW (o := ⟨none, .store 56 (.tmp 12) (.tmp 64), _, _, _, _⟩) rfl 56 (.tmp 12) (.tmp 64) rfl (v1.heap.size + 1) ?sx (arr8 f) ?sy 56 _ HN4.out ?sz ?sw ?sv ?_))
    case lx => rfl
    case ly => rw [arr8_size]; exact Try.size56
    case sz => rw [arr8_size]; exact Try.size56
    case sw => rw [arr8_size, arr8_size]
    case sv => exact arr8_one f
    go_cut [15] (fun _ wr => ∃ (i : Nat) (c : Int) (wt : Int → Option (List UInt8)) (g : Nat → Nat), Inv2 w p l m v1.heap.size (v1.heap.size + 1) LS f i wr c wt g ∧ i ≤ 30)
    case first =>
      go_wp2_with fail
      go_loopw [15] (fun v wr => ∃ (i : Nat) (c : Int) (wt : Int → Option (List UInt8)) (g : Nat → Nat), i ≤ 30 ∧ v = .int .i64 i ∧ Inv2 w p l m v1.heap.size (v1.heap.size + 1) LS f i wr c wt g) (fun v _ => 30 - (intOf v).toNat)
      case atStart => exact ⟨0, c0 + 1, _, _, by omega, rfl, HST2.out⟩
      case round =>
        obtain ⟨i, c, wt, g, hi, rfl, hI⟩ := hrel
        have hcb := hI.cb
        by_cases hlt : i < len1
        · by_cases h60 : i < 30
          · obtain ⟨kb, ko, rfl, hcw, hkb⟩ := HQ.out.at hlt
            obtain ⟨z, hze⟩ : ∃ z, z1.getD i 0 = z := ⟨_, rfl⟩
            rw [hze] at hcw
            have hck := cell_fr hI.fr hcw (by simp)
            clear hcw hze
            have hD := hI.dev
            obtain ⟨k7, hk7, hk8⟩ : ∃ k7 : Nat, bits BinOp.and IntKind.i64 z 7 = (k7 : Int) ∧ k7 < 8 := ⟨(z % 8).toNat, by rw [mask7]; omega, by omega⟩
            go_wp2_with fail
            refine (bytes_at wr (100 + i) _ (by omega) (by omega)).mono ?_
            rintro e wB ⟨rfl, hfB⟩
            go_wp2_with (first | (refine wL_toBytes (o := ⟨some 85, .convert _ _ _, _, _, _, _⟩) rfl _ _ 5 _ rfl Try.underlying9 Try.underlying28 Try.underlying5 (bys (100 + i) 64) 64 (bys_length _ _) rfl ?_) | fail)
            intro cap wC hfC hsC hrC
            have hfW : Fr [] wr wC := hfB.trans hfC
            have hDC := hD.keep hfW (by simp) (by simp) (by simp)
            have hpB : p < wB.heap.size := Nat.lt_of_lt_of_le (lt_of_heap hD.box) hfB.size
            go_wp2_with fail
            refine (write_ok wC p l m 8 8 c (-1) _ _ hDC (by omega) (by omega) (by omega) k7 (by omega) wB.heap.size 0 cap (bys (100 + i) 64) (bys_length _ _) hrC (by omega)).mono ?_
            rintro e w3 ⟨rfl, hf3, hd3⟩
            rw [burnF_neg] at hd3
            have hfr3 : Fr [p, l, m] wr w3 := (hfW.mono (by simp)).trans (hf3.mono (by simp))
            have hbx3 := hfr3.keep hI.now (by simp; omega)
            have hcb3 : w3.cell? ⟨(v1.heap.size + 1), k7, none⟩ = some (.int .i64 (g k7 : Nat)) := by rw [box_cell hbx3, arr8_get _ hk8]
            have hfb3 := box_free hbx3 k7
            have HN := Lib.hid (hI.next hp hl hm (by omega) (by omega) (by simp; omega) (by simp; omega) hk8 h60 hfr3 hd3)
            clear hbx3 hd3 hfr3 hf3 hrC hDC hfW hfC hfB hD hI
            go_wp2_with fail
            go_roundw
            case rel => exact ⟨i + 1, c + 1, _, _, by omega, by go_num, HN.out⟩
            case measure => simp [intOf]; omega
          · go_wp2_with fail
            go_meet
            exact ⟨i, c, wt, g, hI, hi⟩
        · go_wp2_with fail
          go_meet
          exact ⟨i, c, wt, g, hI, hi⟩
    case rest =>
      obtain ⟨i, c, wt, g, hI, hi⟩ := hcut
      have hcb := hI.cb
      go_wp2_with fail
      refine (crash_calls wc p l m 8 8 c (-1) false LS wt hI.dev a2 a3 len3 cap3 z3 (HL.out.ints hI.fr) hlen3 (fun h0 x hx => by have := HL.out.block h0 x hx; omega)).mono ?_
      rintro e w5 ⟨rfl, hf5, m5, hm5, hd5⟩
      have hold5 := hf5.keep hI.old (by simp; omega)
      have hnow5 := hf5.keep hI.now (by simp; omega)
      have hF5 : Fr [] w w5 := hI.fr.trans_new hf5 (by intro x hx; simp at hx; omega)
      obtain ⟨L3, hL3⟩ : ∃ L3 : Nat → List UInt8, L3 = fun i : Nat => ((if a2 then without wt z3 len3 else among wt z3 len3) (i : Int)).getD (LS i) := ⟨_, rfl⟩
      have HW : Hid (∀ k : Nat, k < 8 → L3 k = sec (if decide ((k : Int) ∈ z3.take len3) != a2 then g k else f k) ∧ f k ≤ 130 ∧ g k ≤ 130) := Lib.hid (by rw [hL3]; exact crashed HSN.out hI.sn a2 z3 len3)
      have hz3l : len3 ≤ z3.length := (HL.out.ints hF5).1
      rw [← hL3] at hd5
      have HD5 := Lib.hid hd5; have HO5 := Lib.hid hold5; have HN5 := Lib.hid hnow5; have HF5 := Lib.hid hF5
      clear hI hd5 hL3 hold5 hnow5 hF5 hf5 hm5
      go_wp2_with fail
      go_loopw [17] (fun v17 wr => ∃ (k : Nat) (c' : Int), k ≤ 8 ∧ v17 = .int .i64 k ∧ DevAt wr p l m5 8 8 c' (-1) false L3 (fun _ => none) ∧ Fr [] w wr ∧ wr.heap[v1.heap.size]? = some (.cells (arr8 f) 56 (0, 0)) ∧ wr.heap[v1.heap.size + 1]? = some (.cells (arr8 g) 56 (0, 0)) ∧ (0 ≤ c' ∧ c' ≤ 200 + k)) (fun v17 _ => 8 - (intOf v17).toNat)
      case atStart => exact ⟨0, c, by omega, rfl, HD5.out, HF5.out, HO5.out, HN5.out, by omega⟩
      case round =>
        obtain ⟨k, c', hk, rfl, hD, hFr, hold, hnow, hc'⟩ := hrel
        rename World => wk
        by_cases h8 : k < 8
        · obtain ⟨hWk, hfk, hgk⟩ := HW.out k h8
          obtain ⟨xf, hxf⟩ : ∃ x, x = f k := ⟨_, rfl⟩
          obtain ⟨xg, hxg⟩ : ∃ x, x = g k := ⟨_, rfl⟩
          have hco : wk.cell? ⟨v1.heap.size, k, none⟩ = some (.int .i64 (xf : Int)) := by rw [box_cell hold, arr8_get _ h8, hxf]
          have hcn : wk.cell? ⟨v1.heap.size + 1, k, none⟩ = some (.int .i64 (xg : Int)) := by rw [box_cell hnow, arr8_get _ h8, hxg]
          rw [← hxf, ← hxg] at hWk
          rw [← hxf] at hfk
          rw [← hxg] at hgk
          have HDk := Lib.hid hD; have HFk := Lib.hid hFr; have HOk := Lib.hid hold; have HNk := Lib.hid hnow; have HWk := Lib.hid hWk
          clear hxf hxg hD hFr hold hnow hWk
          go_wp2_with fail
          go_loopw [18, 19] (fun v18 v19 wi => ∃ (j : Nat) (b : Bool), j ≤ len3 ∧ v19 = .int .i64 j ∧ v18 = .bool b ∧ b = decide ((k : Int) ∈ z3.take j) ∧ wi = wk) (fun _ v19 _ => len3 - (intOf v19).toNat)
          case atStart => exact ⟨0, false, by omega, rfl, rfl, by simp, rfl⟩
          case round =>
            obtain ⟨j, b, hj, rfl, rfl, hb0, rfl⟩ := hrel
            have HB := Lib.hid hb0
            clear hb0
            by_cases hlt : j < len3
            · have HTS := Lib.hid (take_succ_getD z3 j (by omega))
              cases b
              · obtain ⟨kb, ko, rfl, hcw, hkb⟩ := HL.out.at hlt
                obtain ⟨z, hze⟩ : ∃ z, z3.getD j 0 = z := ⟨_, rfl⟩
                have hts := HTS.out; clear HTS
                rw [hze] at hcw hts
                have HTS := Lib.hid hts; clear hts
                have hck := cell_fr HFk.out hcw (by simp)
                clear hcw hze
                by_cases hzk : z = (k : Int)
                · go_wp2_with fail
                  go_roundw
                  case rel => exact ⟨j + 1, true, by omega, by go_num, by simp [hzk], by simp [HTS.out, hzk], trivial⟩
                  case measure => simp [intOf]; omega
                · go_wp2_with fail
                  go_roundw
                  case rel => exact ⟨j + 1, false, by omega, by go_num, by simp [hzk], by have hb' := (decide_eq_false_iff_not.1 HB.out.symm); simp [HTS.out, hb', Ne.symm hzk], trivial⟩
                  case measure => simp [intOf]; omega
              · go_wp2_with fail
                go_roundw
                case rel => exact ⟨j + 1, true, by omega, by go_num, rfl, by have hb' := (decide_eq_true_iff.1 HB.out.symm); simp [HTS.out, hb'], trivial⟩
                case measure => simp [intOf]; omega
            · obtain rfl : j = len3 := by omega
              have hWk := HWk.out
              rw [← HB.out] at hWk
              obtain ⟨x, hx⟩ : ∃ x, x = if (b != a2) = true then xg else xf := ⟨_, rfl⟩
              rw [← hx] at hWk
              have hxb : x ≤ 130 := by rw [hx]; split <;> omega
              have HX := Lib.hid hWk
              clear HB hWk HWk hfk hgk
              cases b <;> cases a2 <;> simp at hx <;> subst hx
              all_goals
                go_wp2_with fail
                refine (zero_calls _).mono ?_
                rintro e wZ ⟨rfl, hfZ⟩
                have hDZ := HDk.out.keep hfZ (by simp) (by simp) (by simp)
                have hFZ := HFk.out.trans hfZ
                have hOZ := hfZ.keep HOk.out (by simp)
                have hNZ := hfZ.keep HNk.out (by simp)
                by_cases hpos : 0 < x
                · go_wp2_with fail
                  refine (bytes_at _ x _ rfl (by omega)).mono ?_
                  rintro e wB ⟨rfl, hfB⟩
                  have hDB := hDZ.keep hfB (by simp) (by simp) (by simp)
                  go_wp2_with fail
                  refine (read_ok wB p l m5 8 8 c' (-1) _ _ hDB (by omega) k h8).mono ?_
                  rintro e x1 ⟨vr, rfl, hg1, hE1, hO1⟩
                  obtain ⟨g1, cp1, rfl, hgb1, hgl1, hgr1, _⟩ := owns_range hO1 (by decide)
                  have hse : secNow L3 (fun _ => none) k = bys x 64 := by
                    have : ¬ x = 0 := by omega
                    simp [secNow, HX.out, sec, this]
                  rw [hse] at hgr1
                  have hs1 : (convert 28 9 (.slice (some ⟨g1, 0, none⟩) 64 cp1)).run Try.prog x1 = .ok (.string ⟨(bys x 64).toArray⟩) x1 := run_toString Try.underlying28 Try.underlying5 Try.underlying9 g1 0 cp1 (bys x 64) 64 (bys_length _ _) hgr1
                  have hFx : Fr [] w x1 := (hFZ.trans hfB).trans_new hg1 (by intro x hx; simp at hx; omega)
                  have hOx := hg1.keep (hfB.keep hOZ (by simp)) (by simp; omega)
                  have hNx := hg1.keep (hfB.keep hNZ (by simp)) (by simp; omega)
                  have HFx := Lib.hid hFx; have HOx := Lib.hid hOx; have HNx := Lib.hid hNx; have HEx := Lib.hid hE1
                  clear hgr1 hO1 hse hDB hE1 hFx hOx hNx hDZ hFZ hOZ hNZ
                  go_wp2_with fail
                  go_roundw
                  case rel => exact ⟨k + 1, c' + 1, by omega, by go_num, HEx.out, HFx.out, HOx.out, HNx.out, by omega⟩
                  case measure => simp [intOf]; omega
                · go_wp2_with fail
                  refine (read_ok wZ p l m5 8 8 c' (-1) _ _ hDZ (by omega) k h8).mono ?_
                  rintro e x1 ⟨vr, rfl, hg1, hE1, hO1⟩
                  obtain ⟨g1, cp1, rfl, hgb1, hgl1, hgr1, _⟩ := owns_range hO1 (by decide)
                  have hse : secNow L3 (fun _ => none) k = zeros := by
                    have : x = 0 := by omega
                    simp [secNow, HX.out, sec, this]
                  rw [hse] at hgr1
                  have hs1 : (convert 28 9 (.slice (some ⟨g1, 0, none⟩) 64 cp1)).run Try.prog x1 = .ok (.string ⟨zeros.toArray⟩) x1 := run_toString Try.underlying28 Try.underlying5 Try.underlying9 g1 0 cp1 zeros 64 (by simp [zeros]) hgr1
                  have hFx : Fr [] w x1 := hFZ.trans_new hg1 (by intro x hx; simp at hx; omega)
                  have hOx := hg1.keep hOZ (by simp; omega)
                  have hNx := hg1.keep hNZ (by simp; omega)
                  have HFx := Lib.hid hFx; have HOx := Lib.hid hOx; have HNx := Lib.hid hNx; have HEx := Lib.hid hE1
                  clear hgr1 hO1 hse hE1 hFx hOx hNx hDZ hFZ hOZ hNZ
                  go_wp2_with fail
                  go_roundw
                  case rel => exact ⟨k + 1, c' + 1, by omega, by go_num, HEx.out, HFx.out, HOx.out, HNx.out, by omega⟩
                  case measure => simp [intOf]; omega
        · go_wp2_with fail
          refine (waiting_calls wk p l m5 8 8 c' (-1) false L3 _ hD).mono ?_
          rintro e w7 ⟨vw, ks, rfl, hks, _, _, _, hv, hf7⟩
          have hnil : ks = [] := by
            cases ks with
            | nil => rfl
            | cons a t => exact absurd ((hks a).1 List.mem_cons_self) (by simp)
          obtain rfl := hv.2 hnil
          clear hv hks hnil
          go_wp2_with fail
          refine (awake_calls w7).mono ?_
          rintro e w8 ⟨rfl, hf8⟩
          go_wp2_with fail
          go_ret
          exact ⟨rfl, ((hFr.trans hf7).trans hf8).below (Nat.le_refl _) (by simp)⟩
/-! ### THE ROW's STEP: WRITTEN OUT: LEAVE IT -/
set_option maxRecDepth 100000 in
theorem lifted (os : Os) (started : os.Started) (H : Type) (enc : TypeId × Value → H) :
    ReturnsInHanded {} Try.checked os 6 .any (Rows.devLastsSpec.pre6 enc Try.prog Try.f6 Rows.devLastsRow.domain false) (Rows.devLastsSpec.post enc Try.prog Try.f6 false true false false) := by
  refine returnsInHanded_of_change (C := Try.checked) own started (by kernel_rfl) Try.func6
    (ChangeSpec.witness6 (enc := enc) (C := Try.checked) false ⟨#[], #[.slice none 0 0, .slice none 0 0, .bool false, .slice none 0 0], []⟩ 8 (by kernel_rfl) (by kernel_rfl) (by kernel_rfl) (by kernel_rfl)) ?_
  intro W base args ds gs before hval0 hW hcnd _
  have hval : ∀ (j : Nat) t v, Try.f6.params[j]? = some t → args[j]? = some v → Value.okWide Try.prog W .any base t v := hval0
  have hW' := hW
  obtain ⟨p, q, hA0, hV, rfl, hfz, hnd⟩ := hW
  have hA : DataW.TrodAll enc Try.prog W 0 (fun _ => true) true Try.f6.params.toList args.toList ds p := hA0
  rw [Try.params6] at hA hval
  obtain ⟨v0, vs0, d0, ds0, p0, q0, hargs, rfl, rfl, h0, r0⟩ := trodAll_cons hA
  obtain ⟨v1, vs1, d1, ds1, p1, q1, rfl, rfl, rfl, h1, r1⟩ := trodAll_cons r0
  obtain ⟨v2, vs2, d2, ds2, p2, q2, rfl, rfl, rfl, h2, r2⟩ := trodAll_cons r1
  obtain ⟨v3, vs3, d3, ds3, p3, q3, rfl, rfl, rfl, h3, r3⟩ := trodAll_cons r2
  obtain ⟨rfl, rfl, rfl⟩ := trodAll_nil r3
  obtain rfl : args = #[v0, v1, v2, v3] := by cases args; simp_all
  obtain ⟨rfl, rfl⟩ := trodVars_none hV
  obtain ⟨a0, len0, cap0, rfl⟩ := okWide_slice Try.underlying22 (hval 0 22 v0 rfl rfl)
  have k0 := h0
  have lt0 : ∀ x ∈ p0, x.block < W.heap.size := by obtain ⟨m, hm⟩ := k0; exact DataW.trod_lt m _ _ _ hm
  obtain ⟨z0, w0⟩ : ∃ zs, IsRow .i64 W a0 len0 cap0 zs := by
    obtain ⟨fuel, hf⟩ := h0
    rcases open_ints Try.underlying22 Try.underlying3 (by kernel_rfl) hf with ⟨hcs, _⟩ | ⟨x, l, c, zs, hcs, _, hl, hm, hz, _, hcell, hwz⟩
    · simp [Value.cells] at hcs
      obtain ⟨rfl, rfl, rfl⟩ := hcs
      exact ⟨[], .inl ⟨rfl, rfl, rfl, rfl⟩⟩
    · simp [Value.cells] at hcs
      obtain ⟨rfl, rfl, rfl⟩ := hcs
      exact ⟨zs, .inr ⟨_, rfl, hl, hm, by simpa using hz, hcell, hwz⟩⟩
  obtain ⟨a1, len1, cap1, rfl⟩ := okWide_slice Try.underlying22 (hval 1 22 v1 rfl rfl)
  have k1 := h1
  have lt1 : ∀ x ∈ p1, x.block < W.heap.size := by obtain ⟨m, hm⟩ := k1; exact DataW.trod_lt m _ _ _ hm
  obtain ⟨z1, w1⟩ : ∃ zs, IsRow .i64 W a1 len1 cap1 zs := by
    obtain ⟨fuel, hf⟩ := h1
    rcases open_ints Try.underlying22 Try.underlying3 (by kernel_rfl) hf with ⟨hcs, _⟩ | ⟨x, l, c, zs, hcs, _, hl, hm, hz, _, hcell, hwz⟩
    · simp [Value.cells] at hcs
      obtain ⟨rfl, rfl, rfl⟩ := hcs
      exact ⟨[], .inl ⟨rfl, rfl, rfl, rfl⟩⟩
    · simp [Value.cells] at hcs
      obtain ⟨rfl, rfl, rfl⟩ := hcs
      exact ⟨zs, .inr ⟨_, rfl, hl, hm, by simpa using hz, hcell, hwz⟩⟩
  obtain ⟨a2, rfl, rfl, rfl⟩ := open_bool Try.underlying4 (hval 2 4 v2 rfl rfl) h2
  obtain ⟨a3, len3, cap3, rfl⟩ := okWide_slice Try.underlying22 (hval 3 22 v3 rfl rfl)
  have k3 := h3
  have lt3 : ∀ x ∈ p3, x.block < W.heap.size := by obtain ⟨m, hm⟩ := k3; exact DataW.trod_lt m _ _ _ hm
  obtain ⟨z3, w3⟩ : ∃ zs, IsRow .i64 W a3 len3 cap3 zs := by
    obtain ⟨fuel, hf⟩ := h3
    rcases open_ints Try.underlying22 Try.underlying3 (by kernel_rfl) hf with ⟨hcs, _⟩ | ⟨x, l, c, zs, hcs, _, hl, hm, hz, _, hcell, hwz⟩
    · simp [Value.cells] at hcs
      obtain ⟨rfl, rfl, rfl⟩ := hcs
      exact ⟨[], .inl ⟨rfl, rfl, rfl, rfl⟩⟩
    · simp [Value.cells] at hcs
      obtain ⟨rfl, rfl, rfl⟩ := hcs
      exact ⟨zs, .inr ⟨_, rfl, hl, hm, by simpa using hz, hcell, hwz⟩⟩
  clear hA0 hval0
  refine (walk a0 len0 cap0 z0 a1 len1 cap1 z1 a2 a3 len3 cap3 z3 W w0 w1 w3).mono fun e W' ⟨he, bel⟩ => ?_
  subst he
  exact ⟨_, rfl, _, _, _, [], _, [], hW', trodAll_mk1 (shut_bool Try.underlying4 _), (trodAll_cons_mk (Below.trod laidOut (by kernel_rfl) (of_decide_eq_true (by kernel_rfl)) k0 bel lt0) (trodAll_cons_mk (Below.trod laidOut (by kernel_rfl) (of_decide_eq_true (by kernel_rfl)) k1 bel lt1) (trodAll_cons_mk (shut_bool Try.underlying4 _) (trodAll_cons_mk (Below.trod laidOut (by kernel_rfl) (of_decide_eq_true (by kernel_rfl)) k3 bel lt3) trodAll_mk0)))), rfl, bel.frame _, fun h => by cases h⟩

theorem over : Rows.devLastsRow.holds Try.pinned (OpenSpec.ofChange Rows.devLastsSpec) :=
  OpenClaim.holds_of_wide 6 Try.f6 rfl rfl rfl rfl rfl rfl rfl ⟨rfl, rfl, rfl, rfl, rfl⟩ rfl rfl rfl rfl rfl (by kernel_rfl) Try.func6 (by kernel_rfl)
    (of_decide_eq_true (by kernel_rfl)) (by unfold Func.isWrapper; first | (rw [if_pos (by decide +kernel)]; kernel_rfl) | (rw [if_neg (by decide +kernel)]; exact ⟨rfl, rfl⟩))
    (fun os started H enc _ => lifted os started H enc)

theorem proved : Rows.DevLastsSaid := over
end Go.Proofs.Ythjoakgcmelhmaa.devLasts

