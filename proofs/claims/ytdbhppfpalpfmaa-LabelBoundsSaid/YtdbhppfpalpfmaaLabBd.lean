/-
  LabelBounds: tags three apart, then doubled or turned round.
-/
import Derived.Test.YtdbhppfpalpfmaaLabBd1
import Derived.Test.YtdbhppfpalpfmaaLabE
import Derived.Deep.RegionLawGrows
import Derived.BigRegion
import Derived.Lib.SmallJoins
namespace Go.Proofs.Ytdbhppfpalpfmaa
open Go.RowKit Go.MapKept
theorem one_calls (w : World) (B : Nat) (hB : w.heap.size = B) (y : Int) (r : Bool) (h : setB [y] = r) :
    Calls Try.prog 9 #[.slice (some ⟨B, 0, none⟩) 1 1] (w.alloc (.cells #[.int .i64 y] 3)) fun e w' => e = .returned (.bool r) ∧ w.alloc (.cells #[.int .i64 y] 3) = w' := by
  subst hB
  have := set_calls (w.alloc (.cells #[.int .i64 y] 3)) (some ⟨w.heap.size, 0, none⟩) 1 [y] (new_rdI w 3 [y] (by simp))
  rw [h] at this
  exact this
theorem mixT {f : Int} {n : Nat} {ys : List Int} (hm : Mixed f n ys) (hs : setB (runZ f n) = true) (w : World) (a : Option Addr) (c : Nat) (h : RdI w a c ys) :
    Calls Try.prog 12 #[.slice a ys.length c] w fun e w' => ∃ a' c', e = .returned (.tuple #[.slice a' n c', .bool true]) ∧ RdI w' a' c' (runZ f n) ∧ Fr [] w w' := by
  have := norm_calls w a c ys h
  rw [hm.1, hs, runZ_len] at this
  exact this
theorem mixF {f : Int} {n : Nat} {ys : List Int} (hm : Mixed f n ys) (hs : setB (runZ f n) = false) (w : World) (a : Option Addr) (c : Nat) (h : RdI w a c ys) :
    Calls Try.prog 12 #[.slice a ys.length c] w fun e w' => e = .returned (.tuple #[.slice none 0 0, .bool false]) ∧ Fr [] w w' := by
  have := norm_calls w a c ys h
  rw [hm.1, hs] at this
  exact this.mono fun e w' ⟨a', c', he, _, hf⟩ => ⟨he, hf⟩
theorem mixS {f : Int} {n : Nat} {ys : List Int} (hm : Mixed f n ys) (w : World) (a : Option Addr) (c : Nat) (h : RdI w a c ys) :
    Calls Try.prog 9 #[.slice a ys.length c] w fun e w' => e = .returned (.bool false) ∧ w = w' := by
  have := set_calls w a c ys h
  rw [hm.2.1] at this
  exact this
theorem sameR {f : Int} {n : Nat} (w : World) (a1 a2 : Option Addr) (c1 c2 : Nat) (h1 : RdI w a1 c1 (runZ f n)) (h2 : RdI w a2 c2 (runZ f n)) :
    Calls Try.prog 13 #[.slice a1 n c1, .slice a2 n c2] w fun e w' => e = .returned (.bool true) ∧ Fr [] w w' := by
  have := sameset_yes w a1 a2 c1 c2 (runZ f n) h1 h2
  rw [runZ_len] at this
  exact this
theorem mayR {f : Int} {n : Nat} {r : Bool} (hs : setB (runZ f n) = r) (w : World) (a : Option Addr) (c : Nat) (h : RdI w a c (runZ f n)) :
    Calls Try.prog 10 #[.agg #[.slice none 0 0, .slice a n c]] w fun e w' => e = .returned (.bool r) ∧ Fr [] w w' := by
  have := may_calls w none a 0 c [] (runZ f n) (nil_rdI w) h
  rw [runZ_len, hs, show setB [] = true by decide, Bool.true_and] at this
  exact this
theorem setR {f : Int} {n : Nat} {r : Bool} (hs : setB (runZ f n) = r) (w : World) (a : Option Addr) (c : Nat) (h : RdI w a c (runZ f n)) :
    Calls Try.prog 9 #[.slice a n c] w fun e w' => e = .returned (.bool r) ∧ w = w' := by
  have := set_calls w a c (runZ f n) h
  rw [runZ_len, hs] at this
  exact this
theorem set_0 : setB [0] = false := by simp [setB, upB]
theorem set_big : setB [2147483648] = false := by simp [setB, upB]
theorem set_max : setB [2147483647] = true := by simp [setB, upB]
theorem cellA (w : World) (B : Nat) (v : Value) (T : TypeId) (hB : w.heap.size = B) : (w.alloc (.cells #[v] T)).cell? ⟨B, 0, none⟩ = some v := by
  subst hB
  exact cell_one_new w v T 0 v rfl
theorem cellB (w : World) (B : Nat) (v : Value) (T : TypeId) (o : Obj) (hB : w.heap.size = B) : ((w.alloc (.cells #[v] T)).alloc o).cell? ⟨B, 0, none⟩ = some v := by
  subst hB
  have h := box_cell ((((Fr.refl [] (w.alloc (.cells #[v] T))).alloc o)).keep (heap_alloc_last w (.cells #[v] T)) (by simp))
  rw [h]; rfl
set_option maxRecDepth 100000 in
set_option maxHeartbeats 4000000 in
theorem bounds_calls (w : World) (x y z : Int) (b : Bool) :
    Calls Try.prog 3 #[.int .i64 x, .int .i64 y, .int .i64 z, .bool b] w fun e w' => e = .returned (.bool true) ∧ Fr [] w w' := by
  obtain ⟨i0, hi, hz0, hz1, hz2⟩ := info_parts (show (Try.prog.info? 3).map (fun i => (i.zero, i.size, i.bytes)) = some (some (.int .i64 0), 1, 8) by kernel_rfl)
  obtain ⟨n, hn, en⟩ := mod_in x 40 (by decide) (by decide)
  obtain ⟨f, hf0, hf1, ef⟩ := from_in y
  have en' : (wrap64 (x.tmod 40 + 40)).tmod 40 = (n : Int) := en
  have HI := Lib.hid hi; have HZ0 := Lib.hid hz0; have HZ1 := Lib.hid hz1; have HZ2 := Lib.hid hz2
  have HSET := Lib.hid (runZ_set f n hf0 hf1 hn)
  have HEN := Lib.hid en'; have HEF := Lib.hid ef
  clear hi hz0 hz1 hz2 en en' ef
  go_enter Try.func3, Try.ntmps3
  go_wp2_with fail
  rw [HEN.out, HEF.out]
  clear HEN HEF
  go_loopw [9, 10] (fun v9 v10 wr => ∃ (k : Nat) (v : Value), k ≤ n ∧ v10 = .int .i64 k ∧ v = v9 ∧ wr.ownsRow w.heap.size 3 1 v k ((runZ f k).map (Value.int .i64)) ∧ Fr [] w wr) (fun _ v10 _ => n - (intOf v10).toNat)
  case atStart => exact ⟨0, _, by omega, rfl, rfl, by simpa [runZ] using World.ownsRow_nil _ _ _ _, Fr.refl _ _⟩
  case round =>
    obtain ⟨k, v9, hk, rfl, rfl, hown, hfr⟩ := hrel
    have hsz := hfr.size
    by_cases hlt : k < n
    · have HOW := Lib.hid hown; have HFR := Lib.hid hfr
      clear hown hfr
      go_wp2_with (first
        | (at_builtin; refine wpList_append_own _ rfl _ _ 22 rfl w.heap.size 3 i0 (.int .i64 0) 1 8 Try.underlying22 HI.out HZ0.out HZ1.out HZ2.out rfl (by decide) _ _ _ rfl (HOW.out.alloc _) ⟨wr.heap.size, 0, none⟩ 1 1 [.int .i64 (f + 3 * (k : Int))] rfl rfl (cell_one_new _ _ _) (by simp [Value.oneCell']) (by unfold maxLen; omega) (by omega) (by simp; omega) ?_)
        | fail)
      intro v' w4 hown' hgrow _
      have HFA := Lib.hid ((HFR.out.alloc (.cells #[.int .i64 (f + 3 * (k : Int))] 3)).grew (HOW.out.alloc _) hgrow (Nat.le_refl _))
      have HOA := Lib.hid hown'
      clear hown' hgrow
      go_wp2_with fail
      go_roundw
      case rel => exact ⟨k + 1, _, by omega, by go_num, rfl, by rw [runZ_snoc]; simpa using HOA.out, HFA.out⟩
      case measure => simp [intOf]; omega
    · obtain rfl : n = k := by omega
      obtain ⟨ad, cap, rfl, hr, _⟩ := own_rdI2 hown (by rw [runZ_len]; omega)
      rw [runZ_len]
      obtain ⟨r, er⟩ : ∃ r : Bool, decide (n ≤ 16) = r := ⟨_, rfl⟩
      have d16 : decide ((n : Int) ≤ 16) = r := by rw [← er]; exact decide_eq_decide.2 (by omega)
      have HR16 : Hid (setB (runZ f n) = r) := Lib.hid (by rw [HSET.out]; exact er)
      have HRD := Lib.hid hr; have HFR := Lib.hid hfr
      have bne : (r != r) = false := by cases r <;> rfl
      clear hown hr hfr er HSET hlt
      go_wp2_with fail
      refine (setR HR16.out wr ad cap HRD.out).mono ?_
      rintro e w1 ⟨rfl, rfl⟩
      go_wp2_with fail
      refine (mayR HR16.out _ ad cap (HRD.out)).mono ?_
      rintro e w2 ⟨rfl, hf⟩
      have HF2 := Lib.hid (HFR.out.trans hf); have HR2 := Lib.hid (HRD.out.keep hf)
      clear hf HFR HRD hsz bne
      by_cases h2 : n < 2
      · go_wp2_with fail
        refine (one_calls _ _ (by simp) 0 false set_0).mono ?_
        rintro e w3 ⟨rfl, rfl⟩
        go_wp2_with fail
        refine (one_calls _ _ (by simp) 2147483648 false set_big).mono ?_
        rintro e w3 ⟨rfl, rfl⟩
        go_wp2_with fail
        refine (one_calls _ _ (by simp) 2147483647 true set_max).mono ?_
        rintro e w3 ⟨rfl, rfl⟩
        go_wp2_with fail
        refine (awake_calls _).mono ?_
        rintro e w3 ⟨rfl, hf3⟩
        have HF3 := Lib.hid ((((HF2.out.alloc _).alloc _).alloc _).trans hf3)
        clear hf3
        go_wp2_with fail
        go_ret
        exact ⟨rfl, HF3.out⟩
      · have HRS := HR2
        obtain ⟨j, hj, ej⟩ := mod_in z n (by omega) (by omega)
        have HEJ := Lib.hid ej
        clear ej HRS
        obtain ⟨bb, off, rfl, hcell, hall⟩ := HR2.out.cellAt (k := j) (by rw [runZ_len]; exact hj)
        have HSS : Hid (∀ w' a' c', Fr [] w2 w' → RdI w' a' c' (runZ f n) → Calls Try.prog 13 #[.slice a' n c', .slice (some ⟨bb, off, none⟩) n cap] w' _) := Lib.hid (fun w' a' c' hf h => sameR w' a' (some ⟨bb, off, none⟩) c' cap h (HR2.out.keep hf))
        have HMX0 := mixed_twice f n j hj
        obtain ⟨xx, ex⟩ : ∃ xx, (runZ f n).getD j 0 = xx := ⟨_, rfl⟩
        rw [ex] at hcell HMX0
        have HMX := Lib.hid HMX0
        have HCELL : Hid (∀ w', Fr [] w2 w' → w'.cell? ⟨bb, off + j, none⟩ = some (.int .i64 xx)) := Lib.hid (fun w' hf => by
          obtain ⟨b', o', e', h', _⟩ := (HR2.out.keep hf).cellAt (k := j) (by rw [runZ_len]; exact hj)
          cases e'
          rw [ex] at h'; exact h')
        have HALL : Hid (∀ w', Fr [] w2 w' → ∀ (i : Nat) (u : Value), ((runZ f n).map (Value.int .i64))[i]? = some u → w'.cell? ((⟨bb, off, none⟩ : Addr).add i) = some u) := Lib.hid (fun w' hf i u hu => by
          have hi : i < (runZ f n).length := by have := (List.getElem?_eq_some_iff.1 hu).1; simpa using this
          obtain ⟨b', o', e', _, h'⟩ := (HR2.out.keep hf).cellAt (k := i) hi
          cases e'
          rw [Go.WideShapes.add_plain, h' i hi]
          simp [hi] at hu
          simp [hi, hu])
        have hjn : (j : Int) < (n : Int) := by omega
        have hcellA := HCELL.out (w2.alloc (.cells #[] 3)) ((Fr.refl [] _).alloc _)
        clear hall HMX0 ex
        go_wp2_with fail
        rw [HEJ.out]
        clear HEJ
        go_cut [13] (fun v13 wx => ∃ v, v = v13 ∧ wx.ownsRow w2.heap.size 3 1 v (n + 1) ((runZ f n ++ [xx]).map (Value.int .i64)) ∧ Fr [] w2 wx)
        case first =>
          go_region_law (first
            | (refine step_append_grows rfl (.tmp 72) (.tmp 73) 22 rfl 3 i0 (.int .i64 0) 1 8 Try.underlying22 HI.out HZ0.out HZ1.out HZ2.out rfl (by decide) (some _) 0 0 [] rfl (fun h => by cases h) rfl (fun _ _ _ u hu => by simp at hu) ⟨bb, off, none⟩ n cap ((runZ f n).map (Value.int .i64)) rfl (by simp [runZ_len]) (HALL.out _ (by first | exact (Fr.refl [] _).drew | exact ((Fr.refl [] _).alloc _).drew | exact (((Fr.refl [] _).alloc _).alloc _).drew | exact (Fr.refl [] _).drew.alloc _ | exact ((Fr.refl [] _).drew.alloc _).alloc _ | exact ((Fr.refl [] _).alloc _).alloc _ | exact (Fr.refl [] _).alloc _)) (fun u hu => by obtain ⟨y, _, rfl⟩ := List.mem_map.1 hu; rfl) (by omega) (by unfold maxLen; omega) (by omega) ?_; intro v4 w4 hown' hgrow; have HF4 : Hid (Fr [] w2 w4) := Lib.hid (Fr.trans (by first | exact (Fr.refl [] _).drew | exact ((Fr.refl [] _).alloc _).drew | exact (((Fr.refl [] _).alloc _).alloc _).drew | exact (Fr.refl [] _).drew.alloc _ | exact ((Fr.refl [] _).drew.alloc _).alloc _ | exact ((Fr.refl [] _).alloc _).alloc _ | exact (Fr.refl [] _).alloc _) (fr_none hgrow)); have hc4 := HCELL.out w4 HF4.out; have HG4 := Lib.hid (fun p u (h : World.cell? _ p = some u) => cell_kept h hgrow (fun r e => by cases e)); have HO4 : Hid (w4.ownsRow w2.heap.size 3 1 v4 n ((runZ f n).map (Value.int .i64))) := Lib.hid (by have h := ownsRow_lower (B' := w2.heap.size) hown' (by first | exact Nat.le_refl _ | (simp; done) | (simp; omega)); rw [Nat.zero_add, List.nil_append] at h; exact h); clear hown' hgrow)
            | (refine step_append_own rfl (.tmp 74) (.tmp 79) 22 rfl w2.heap.size 3 i0 Try.underlying22 HI.out HZ0.out HZ1.out HZ2.out _ n (runZ f n) rfl (HO4.out.alloc _) ⟨_, 0, none⟩ 1 xx rfl (cellA _ _ _ _ (by simp)) (by omega) (Fr.size ((HF4.out.alloc _))) ?_; intro vq wq hownq hbq; have HFQ := Lib.hid ((HF4.out.alloc _).then_below2 hbq (Nat.le_refl _)))
            | (refine step_append_own rfl (.tmp 74) (.tmp 79) 22 rfl w2.heap.size 3 i0 Try.underlying22 HI.out HZ0.out HZ1.out HZ2.out _ n (runZ f n) rfl HO4.out ⟨_, 0, none⟩ 1 xx rfl (HG4.out _ _ (by first | exact cellA _ _ _ _ (by simp) | exact cellB _ _ _ _ _ (by simp))) (by omega) (Fr.size HF4.out) ?_; intro vq wq hownq hbq; have HFQ := Lib.hid (HF4.out.then_below2 hbq (Nat.le_refl _))))
          all_goals
            have HOQ := Lib.hid hownq
            clear hownq hbq HALL HCELL hcell hcellA HO4 HG4 HF4 hc4
            go_wp2_with fail
            go_meet
            exact ⟨_, rfl, HOQ.out, HFQ.out⟩
        case rest =>
          obtain ⟨vq, rfl, hownq, hfq⟩ := hcut
          obtain ⟨wq, rfl⟩ : ∃ wq, wq = wc := ⟨_, rfl⟩
          have HFQ := Lib.hid hfq
          clear HALL HCELL hcell hcellA hfq
          cases b with
          | false =>
            obtain ⟨a5, c5, rfl, hr5, _⟩ := own_rdI2 hownq (by simp [runZ_len]; omega)
            have HR5 := Lib.hid hr5; have HF5 := HFQ
            obtain ⟨w5, ew5⟩ : ∃ w5, w5 = wq := ⟨_, rfl⟩
            obtain ⟨l5, el5⟩ : ∃ l5, (runZ f n ++ [xx]).length = l5 := ⟨_, rfl⟩
            rw [el5]
            have HL5 := Lib.hid el5
            rw [← ew5] at HR5 HF5 ⊢
            clear hownq hr5 el5 ew5 HFQ
            cases r with
            | true =>
              have HN : Hid (Calls Try.prog 12 #[.slice a5 l5 c5] w5 _) := Lib.hid (by rw [← HL5.out]; exact mixT HMX.out HR16.out w5 a5 c5 HR5.out)
              have HST : Hid (∀ w', Fr [] w5 w' → Calls Try.prog 9 #[.slice a5 l5 c5] w' _) := Lib.hid (fun w' hf => by rw [← HL5.out]; exact mixS HMX.out w' a5 c5 (HR5.out.keep hf))
              clear HMX HR5 HL5
              go_wp2_with fail
              refine HN.out.mono ?_
              rintro e w6 ⟨a6, c6, rfl, hr6, hf6⟩
              have HR6 := Lib.hid hr6; have HF6 := Lib.hid hf6
              clear hr6 hf6 HN
              go_wp2_with fail
              refine (HST.out w6 HF6.out).mono ?_
              rintro e w7 ⟨rfl, rfl⟩
              go_wp2_with fail
              refine (HSS.out w6 a6 c6 (HF5.out.trans HF6.out) HR6.out).mono ?_
              rintro e w7 ⟨rfl, hf7⟩
              have HF7 := Lib.hid ((HF5.out.trans HF6.out).trans hf7)
              clear hf7 HF6 HF5 HST HSS HR6
              go_wp2_with fail
              refine (awake_calls _).mono ?_
              rintro e w8 ⟨rfl, hf8⟩
              have HF8 := Lib.hid (HF7.out.trans hf8)
              clear hf8
              go_wp2_with fail
              go_ret
              exact ⟨rfl, HF2.out.trans HF8.out⟩
            | false =>
              have HN : Hid (Calls Try.prog 12 #[.slice a5 l5 c5] w5 _) := Lib.hid (by rw [← HL5.out]; exact mixF HMX.out HR16.out w5 a5 c5 HR5.out)
              have HST : Hid (∀ w', Fr [] w5 w' → Calls Try.prog 9 #[.slice a5 l5 c5] w' _) := Lib.hid (fun w' hf => by rw [← HL5.out]; exact mixS HMX.out w' a5 c5 (HR5.out.keep hf))
              clear HMX HR5 HL5
              go_wp2_with fail
              refine HN.out.mono ?_
              rintro e w6 ⟨rfl, hf6⟩
              have HF6 := Lib.hid hf6
              clear hf6 HN
              go_wp2_with fail
              refine (HST.out w6 HF6.out).mono ?_
              rintro e w7 ⟨rfl, rfl⟩
              have HF7 := Lib.hid (HF5.out.trans HF6.out)
              clear HF6 HF5 HST HSS
              go_wp2_with fail
              refine (awake_calls _).mono ?_
              rintro e w8 ⟨rfl, hf8⟩
              have HF8 := Lib.hid (HF7.out.trans hf8)
              clear hf8
              go_wp2_with fail
              go_ret
              exact ⟨rfl, HF2.out.trans HF8.out⟩
          | true =>
            clear HMX hownq
            go_wp2_with (first
              | (at_builtin; refine wL_appendR rfl _ _ 22 rfl wq.heap.size 3 i0 Try.underlying22 HI.out HZ0.out HZ1.out HZ2.out _ 0 [] rfl (new_own wq _) (some ⟨bb, off, none⟩) cap n (runZ f n) (runZ_len f n) rfl ((HR2.out.keep HFQ.out).keep ((Fr.refl [] _).alloc _)) (by intro h; cases h) (by omega) (by simp) ?_)
              | fail)
            intro v5 w5 hown5 hb5
            have hfr5 : Fr [] wq w5 := ((Fr.refl [] wq).alloc _).then_below2 hb5 (Nat.le_refl _)
            obtain ⟨g, cg, rfl⟩ := Go.Joins.ownsRow_form hown5 (by omega)
            have hcs : ∀ i, i < n → w5.cell? ⟨g, i, none⟩ = some (.int .i64 ((runZ f n).getD i 0)) := fun i hi => by
              have hl : i < (runZ f n).length := by rw [runZ_len]; exact hi
              have := hown5.cells (g := g) rfl i (.int .i64 ((runZ f n).getD i 0)) (by simp [List.getD_eq_getElem?_getD, hl])
              rw [Go.WideShapes.add_plain, Nat.zero_add] at this
              exact this
            obtain ⟨hg1, hg2, hg3⟩ : wq.heap.size ≤ g ∧ n ≤ cg ∧ cg ≤ maxLen := by
              rcases hown5.2 with ⟨h, _⟩ | ⟨g', cap', cur, e, h1, _, h3, h4, _⟩
              · cases h
              · cases e; exact ⟨h1, h3, h4⟩
            obtain ⟨m, rfl⟩ : ∃ m, n = m + 1 := ⟨n - 1, by omega⟩
            have q0 := hcs 0 (by omega)
            have q1 := hcs m (by omega)
            have f0 := World.ownsRow.frozenAt hown5 0
            have f1 := World.ownsRow.frozenAt hown5 m
            have HSW := Lib.hid (swap_rdI (w := w5) (f := f) (g := g) (n := m + 1) (cap := cg) (by omega) (by omega) hg2 hg3 hcs)
            have HFW := Lib.hid (fun (v1 v2 : Value) => Fr.of_below (below_set (j := m) (below_set (j := 0) (below_fr hfr5) hg1 v1) hg1 v2))
            have HMX := Lib.hid (mixed_swap f (m + 1) (by omega))
            have hm0 : 0 < m := by omega
            have hwr : IntKind.i64.wrap (((m + 1 : Nat) : Int) - 1) = (m : Int) := by
              rw [Int.natCast_add, Int.natCast_one, Int.add_sub_cancel]; exact IntWalk.i64_in _ (by omega)
            obtain ⟨x0, ex0⟩ : ∃ x0, (runZ f (m + 1)).getD 0 0 = x0 := ⟨_, rfl⟩
            obtain ⟨x1, ex1⟩ : ∃ x1, (runZ f (m + 1)).getD m 0 = x1 := ⟨_, rfl⟩
            rw [ex0] at q0
            rw [ex1] at q1
            have HX0 := Lib.hid ex0; have HX1 := Lib.hid ex1
            clear hcs hown5 hb5 hfr5 ex0 ex1
            go_wp2_with fail
            go_big_region
            have hrs : RdI ((w5.setCell ⟨g, 0, none⟩ (.int .i64 x1)).setCell ⟨g, m, none⟩ (.int .i64 x0)) (some ⟨g, 0, none⟩) cg (swZ f (m + 1)) := by
              have h := HSW.out
              rw [show m + 1 - 1 = m from rfl, HX0.out, HX1.out] at h
              exact h
            have hfs := HFQ.out.trans (HFW.out (.int .i64 x1) (.int .i64 x0)).drew
            have hrs' := hrs.keep (Fr.refl [] _).drew
            obtain ⟨wv, ewv⟩ : ∃ wv, ((w5.setCell ⟨g, 0, none⟩ (.int .i64 x1)).setCell ⟨g, m, none⟩ (.int .i64 x0)).drew = wv := ⟨_, rfl⟩
            rw [ewv] at hrs' hfs
            simp only [ewv]
            have HR5 := Lib.hid hrs'; have HF5 := Lib.hid hfs
            have HL5 : Hid ((swZ f (m + 1)).length = m + 1) := Lib.hid (swZ_len f (m + 1))
            clear hrs hrs' hfs ewv HSW HFW HX0 HX1 HFQ q0 q1 f0 f1
            cases r with
            | true =>
              have HN : Hid (Calls Try.prog 12 #[.slice (some ⟨g, 0, none⟩) (m + 1) cg] wv _) := Lib.hid (by rw [← HL5.out]; exact mixT HMX.out HR16.out wv (some ⟨g, 0, none⟩) cg HR5.out)
              have HST : Hid (∀ w', Fr [] wv w' → Calls Try.prog 9 #[.slice (some ⟨g, 0, none⟩) (m + 1) cg] w' _) := Lib.hid (fun w' hf => by rw [← HL5.out]; exact mixS HMX.out w' (some ⟨g, 0, none⟩) cg (HR5.out.keep hf))
              clear HMX HR5 HL5
              go_wp2_with fail
              refine HN.out.mono ?_
              rintro e w6 ⟨a6, c6, rfl, hr6, hf6⟩
              have HR6 := Lib.hid hr6; have HF6 := Lib.hid hf6
              clear hr6 hf6 HN
              go_wp2_with fail
              refine (HST.out w6 HF6.out).mono ?_
              rintro e w7 ⟨rfl, rfl⟩
              go_wp2_with fail
              refine (HSS.out w6 a6 c6 (HF5.out.trans HF6.out) HR6.out).mono ?_
              rintro e w7 ⟨rfl, hf7⟩
              have HF7 := Lib.hid ((HF5.out.trans HF6.out).trans hf7)
              clear hf7 HF6 HF5 HST HSS HR6
              go_wp2_with fail
              refine (awake_calls _).mono ?_
              rintro e w8 ⟨rfl, hf8⟩
              have HF8 := Lib.hid (HF7.out.trans hf8)
              clear hf8
              go_wp2_with fail
              go_ret
              exact ⟨rfl, HF2.out.trans HF8.out⟩
            | false =>
              have HN : Hid (Calls Try.prog 12 #[.slice (some ⟨g, 0, none⟩) (m + 1) cg] wv _) := Lib.hid (by rw [← HL5.out]; exact mixF HMX.out HR16.out wv (some ⟨g, 0, none⟩) cg HR5.out)
              have HST : Hid (∀ w', Fr [] wv w' → Calls Try.prog 9 #[.slice (some ⟨g, 0, none⟩) (m + 1) cg] w' _) := Lib.hid (fun w' hf => by rw [← HL5.out]; exact mixS HMX.out w' (some ⟨g, 0, none⟩) cg (HR5.out.keep hf))
              clear HMX HR5 HL5
              go_wp2_with fail
              refine HN.out.mono ?_
              rintro e w6 ⟨rfl, hf6⟩
              have HF6 := Lib.hid hf6
              clear hf6 HN
              go_wp2_with fail
              refine (HST.out w6 HF6.out).mono ?_
              rintro e w7 ⟨rfl, rfl⟩
              have HF7 := Lib.hid (HF5.out.trans HF6.out)
              clear HF6 HF5 HST HSS
              go_wp2_with fail
              refine (awake_calls _).mono ?_
              rintro e w8 ⟨rfl, hf8⟩
              have HF8 := Lib.hid (HF7.out.trans hf8)
              clear hf8
              go_wp2_with fail
              go_ret
              exact ⟨rfl, HF2.out.trans HF8.out⟩
end Go.Proofs.Ytdbhppfpalpfmaa
