/-
  For any two lists, DevApart returns true and leaves its arguments as they were.
-/
import Derived.Test.YthjoakgcmelhmaaRows
import Derived.Test.YthjoakgcmelhmaaDevUse
import Derived.Test.YthjoakgcmelhmaaDevCopy
import Derived.Test.YthjoakgcmelhmaaDevWait
import Derived.ProofKit
import Derived.OpenShut
import Derived.ShutString
import Derived.ChangeOld
import Derived.Below
import Derived.Deep.DeepCutAuto
import Derived.Deep.CutBlock
namespace Go.Proofs.Ythjoakgcmelhmaa.devApart
open Go.ChangeShapes Go.WideShapes Go.ChangeAt Go.RowKit Go.MapKept
set_option linter.unusedVariables false
theorem own : ownKnob Try.prog.godebug = none := by kernel_rfl
theorem laidOut : laidOutB Try.prog = true := by kernel_rfl
/-- The first loop: what holds at each round's head. -/
structure Inv1 (w : World) (p l m : Nat) (i : Nat) (wr : World) (c : Int) (ls : Nat → List UInt8) (wt : Int → Option (List UInt8)) : Prop where
  dev : DevAt wr p l m 8 8 c (-1) false ls wt
  fr : Fr [] w wr
  cb : 0 ≤ c ∧ c ≤ 2 * i
theorem Inv1.next {w : World} {p l m i : Nat} {wr w' : World} {c c' : Int} {ls ls' : Nat → List UInt8} {wt wt' : Int → Option (List UInt8)} (h : Inv1 w p l m i wr c ls wt) (hp : w.heap.size ≤ p) (hl : w.heap.size ≤ l) (hm : w.heap.size ≤ m)
    (hfr : Fr [p, l, m] wr w') (hd : DevAt w' p l m 8 8 c' (-1) false ls' wt') (hc : 0 ≤ c' ∧ c' ≤ c + 2) : Inv1 w p l m (i + 1) w' c' ls' wt' :=
  ⟨hd, h.fr.trans_new hfr (by intro x hx; simp at hx; omega), by have := h.cb; omega⟩
/-- The second loop: the copy alone turns. -/
structure Inv2 (w0 : World) (p l m q : Nat) (c0 : Int) (i : Nat) (wr : World) (c : Int) (ls : Nat → List UInt8) (wt : Int → Option (List UInt8)) : Prop where
  dev : DevAt wr p l m 8 q c (-1) false ls wt
  fr : Fr [p, l, m] w0 wr
  cb : 0 ≤ c ∧ c ≤ c0 + 2 * i
theorem Inv2.next {w0 : World} {p l m q i : Nat} {wr w' : World} {c0 c c' : Int} {ls ls' : Nat → List UInt8} {wt wt' : Int → Option (List UInt8)} (h : Inv2 w0 p l m q c0 i wr c ls wt)
    (hfr : Fr [p, l, m] wr w') (hd : DevAt w' p l m 8 q c' (-1) false ls' wt') (hc : 0 ≤ c' ∧ c' ≤ c + 2) : Inv2 w0 p l m q c0 (i + 1) w' c' ls' wt' :=
  ⟨hd, h.fr.trans hfr, by have := h.cb; omega⟩
set_option maxRecDepth 100000 in
set_option maxHeartbeats 4000000 in
theorem walk (a0 : Option Addr) (len0 cap0 : Nat) (z0 : List Int) (a1 : Option Addr) (len1 cap1 : Nat) (z1 : List Int) (w : World) (w0 : IsRow .i64 w a0 len0 cap0 z0) (w1 : IsRow .i64 w a1 len1 cap1 z1) :
    Calls Try.prog 4 #[.slice a0 len0 cap0, .slice a1 len1 cap1] w fun e w' => e = .returned (.bool true) ∧ Below w.heap.size w w' := by
  have hlen0 := w0.lt63; have hlen1 := w1.lt63
  have HR := Lib.hid w0; have HQ := Lib.hid w1; clear w0 w1
  go_enter Try.func4, Try.ntmps4
  go_wp2_with fail
  refine (new_ok w 8 (by decide)).mono ?_
  rintro e v1 ⟨p, l, m, rfl, hf1, hp, hl, hm, hd1⟩
  have HST : Hid (Inv1 w p l m 0 v1 0 _ _) := Lib.hid ⟨hd1, hf1, by omega⟩
  clear hd1 hf1
  go_upto_block 0 with fail
  go_cut [7] (fun _ wr => ∃ (c : Int) (ls : Nat → List UInt8) (wt : Int → Option (List UInt8)), DevAt wr p l m 8 8 c (-1) false ls wt ∧ (0 ≤ c ∧ c ≤ 40) ∧ Fr [] w wr)
  case first =>
    go_wp2_with fail
    go_loopw [7] (fun v7 wr => ∃ (i : Nat) (c : Int) (ls : Nat → List UInt8) (wt : Int → Option (List UInt8)), i ≤ 20 ∧ v7 = .int .i64 i ∧ Inv1 w p l m i wr c ls wt) (fun v7 _ => 20 - (intOf v7).toNat)
    case atStart => exact ⟨0, 0, _, _, by omega, rfl, HST.out⟩
    case round =>
      obtain ⟨i, c, ls, wt, hi, rfl, hI⟩ := hrel
      have hcb := hI.cb
      by_cases hlt : i < len0
      · by_cases h60 : i < 20
        · obtain ⟨kb, ko, rfl, hcw, hkb⟩ := HR.out.at hlt
          obtain ⟨z, hze⟩ : ∃ z, z0.getD i 0 = z := ⟨_, rfl⟩
          rw [hze] at hcw
          have hck := cell_fr hI.fr hcw (by simp)
          clear hcw hze
          have hD := hI.dev
          have hcv := conv_bytes (bys (i + 1) 64) (bys_length _ _)
          have hcw : ∀ W : World, kb < W.heap.size → (Lib.bytesWorld W 5 ⟨(bys (i + 1) 64).toArray⟩).cell? ⟨kb, ko + i, none⟩ = W.cell? ⟨kb, ko + i, none⟩ := fun W h => Lib.bytesWorld_old W _ _ _ h
          obtain ⟨k7, hk7, hk8⟩ : ∃ k7 : Nat, bits BinOp.and IntKind.i64 z 7 = (k7 : Int) ∧ k7 < 8 := ⟨(z % 8).toNat, by rw [mask7]; omega, by omega⟩
          go_wp2_with fail
          go_region_with (first | (go_at_call 13; refine (bytes_at _ (i + 1) _ (by rw [IntKind.wrap_i64]; omega) (by omega)).mono ?_; rintro e wB ⟨rfl, hfB⟩; have hckB : wB.cell? ⟨kb, ko + i, none⟩ = some (.int .i64 z) := cell_fr hfB hck (by simp); have hkB := World.block_lt_of_cell? _ _ hckB; have hpB : p < wB.heap.size := Nat.lt_of_lt_of_le (lt_of_heap hD.box) hfB.size) | (go_at_call 12; have hfW : Fr [] wr (Lib.bytesWorld wB 5 ⟨(bys (i + 1) 64).toArray⟩) := (((Fr.refl [] wr).drew).trans hfB).trans (bytesWorld_fr' wB _); have hdW := hD.keep hfW (by simp) (by simp) (by simp); refine (write_ok _ p l m 8 8 c (-1) ls wt hdW (by omega) (by omega) (by omega) k7 (by omega) wB.heap.size 0 _ (bys (i + 1) 64) (bys_length _ _) (bytesWorld_range' wB _) (by omega)).mono ?_; rintro e w3 ⟨rfl, hf3, hd3⟩; have hfr3 : Fr [p, l, m] wr w3 := (hfW.mono (by simp)).trans (hf3.mono (by simp)); rw [burnF_neg] at hd3; have hck3 := cell_fr hfr3 hck (by simp; omega)))
          all_goals
            cases hb8 : (bits BinOp.and IntKind.i64 z 8 == 8)
            · go_wp2_with fail
              go_roundw
              case rel => exact ⟨i + 1, c + 1, _, _, by omega, by go_num, hI.next hp hl hm hfr3 hd3 (by omega)⟩
              case measure => simp [intOf]; omega
            · go_wp2_with fail
              refine (flush_ok w3 p l m 8 8 (c + 1) (-1) _ _ hd3 (by omega) (by decide) (by decide)).mono ?_
              rintro e w4 ⟨rfl, hf4, hd4⟩
              rw [burnF_neg] at hd4
              go_wp2_with fail
              go_roundw
              case rel => exact ⟨i + 1, c + 1 + 1, _, _, by omega, by go_num, hI.next hp hl hm (hfr3.trans hf4) hd4 (by omega)⟩
              case measure => simp [intOf]; omega
        · go_wp2_with fail
          go_meet
          exact ⟨c, ls, wt, hI.dev, by omega, hI.fr⟩
      · go_wp2_with fail
        go_meet
        exact ⟨c, ls, wt, hI.dev, by omega, hI.fr⟩
  case rest =>
    obtain ⟨c, ls, wt, hd2, hcb, hF2⟩ := hcut
    go_wp2_with fail
    refine (copy_calls wc p l m 8 8 c (-1) false ls wt hd2).mono ?_
    rintro e v3 ⟨p3, l3, m3, q3, rfl, hf3, hp3, hl3, hm3, hd3⟩
    have hd3o := hd2.keep hf3 (by simp) (by simp) (by simp)
    have hb0 : p < wc.heap.size ∧ l < wc.heap.size ∧ m < wc.heap.size := ⟨lt_of_heap hd2.box, by obtain ⟨lc, h1, _⟩ := hd2.las; exact lt_of_heap h1, hd2.wai.lt⟩
    have hb3 : p3 < v3.heap.size ∧ l3 < v3.heap.size ∧ m3 < v3.heap.size := ⟨lt_of_heap hd3.box, by obtain ⟨lc, h1, _⟩ := hd3.las; exact lt_of_heap h1, hd3.wai.lt⟩
    go_wp2_with fail
    refine (copy_calls v3 p l m 8 8 c (-1) false ls wt hd3o).mono ?_
    rintro e v4 ⟨p4, l4, m4, q4, rfl, hf4, hp4, hl4, hm4, hd4⟩
    have hd4o := hd3o.keep hf4 (by simp) (by simp) (by simp)
    have hd4c := hd3.keep hf4 (by simp) (by simp) (by simp)
    have hb4 : p4 < v4.heap.size ∧ l4 < v4.heap.size ∧ m4 < v4.heap.size := ⟨lt_of_heap hd4.box, by obtain ⟨lc, h1, _⟩ := hd4.las; exact lt_of_heap h1, hd4.wai.lt⟩
    have hF4 : Fr [] w v4 := (hF2.trans hf3).trans hf4
    have hz4 := hF4.size
    have HST2 : Hid (Inv2 v4 p3 l3 m3 q3 40 0 v4 c ls wt) := Lib.hid ⟨hd4c, Fr.refl _ _, by omega⟩
    have HD4O := Lib.hid hd4o; have HD4 := Lib.hid hd4
    have hsz3 := hf3.size; have hsz4 := hf4.size; have hsz2 := hF2.size
    clear hd2 hd3 hd3o hd4o hd4 hd4c hf3 hf4
    go_upto_block 2 with fail
    go_cut [10] (fun _ wr => ∃ (c' : Int) (ls' : Nat → List UInt8) (wt' : Int → Option (List UInt8)), DevAt wr p3 l3 m3 8 q3 c' (-1) false ls' wt' ∧ (0 ≤ c' ∧ c' ≤ 80) ∧ Fr [p3, l3, m3] v4 wr)
    case first =>
      go_wp2_with fail
      go_loopw [10] (fun v7 wr => ∃ (i : Nat) (c' : Int) (ls' : Nat → List UInt8) (wt' : Int → Option (List UInt8)), i ≤ 20 ∧ v7 = .int .i64 i ∧ Inv2 v4 p3 l3 m3 q3 40 i wr c' ls' wt') (fun v7 _ => 20 - (intOf v7).toNat)
      case atStart => exact ⟨0, c, _, _, by omega, rfl, HST2.out⟩
      case round =>
        obtain ⟨i, c', ls', wt', hi, rfl, hI⟩ := hrel
        have hcb' := hI.cb
        by_cases hlt : i < len1
        · by_cases h60 : i < 20
          · obtain ⟨kb, ko, rfl, hcw, hkb⟩ := HQ.out.at hlt
            obtain ⟨z, hze⟩ : ∃ z, z1.getD i 0 = z := ⟨_, rfl⟩
            rw [hze] at hcw
            have hck := cell_fr hI.fr (cell_fr hF4 hcw (by simp)) (by simp; omega)
            clear hcw hze
            have hD := hI.dev
            have hcv := conv_bytes (bys (50 + i) 64) (bys_length _ _)
            have hcw : ∀ W : World, kb < W.heap.size → (Lib.bytesWorld W 5 ⟨(bys (50 + i) 64).toArray⟩).cell? ⟨kb, ko + i, none⟩ = W.cell? ⟨kb, ko + i, none⟩ := fun W h => Lib.bytesWorld_old W _ _ _ h
            obtain ⟨k7, hk7, hk8⟩ : ∃ k7 : Nat, bits BinOp.and IntKind.i64 z 7 = (k7 : Int) ∧ k7 < 8 := ⟨(z % 8).toNat, by rw [mask7]; omega, by omega⟩
            go_wp2_with fail
            go_region_with (first | (go_at_call 13; refine (bytes_at _ (50 + i) _ (by rw [IntKind.wrap_i64]; omega) (by omega)).mono ?_; rintro e wB ⟨rfl, hfB⟩; have hckB : wB.cell? ⟨kb, ko + i, none⟩ = some (.int .i64 z) := cell_fr hfB hck (by simp); have hkB := World.block_lt_of_cell? _ _ hckB; have hpB : p3 < wB.heap.size := Nat.lt_of_lt_of_le (lt_of_heap hD.box) hfB.size) | (go_at_call 12; have hfW : Fr [] wr (Lib.bytesWorld wB 5 ⟨(bys (50 + i) 64).toArray⟩) := (((Fr.refl [] wr).drew).trans hfB).trans (bytesWorld_fr' wB _); have hdW := hD.keep hfW (by simp) (by simp) (by simp); refine (write_ok _ p3 l3 m3 8 q3 c' (-1) ls' wt' hdW (by omega) (by omega) (by omega) k7 (by omega) wB.heap.size 0 _ (bys (50 + i) 64) (bys_length _ _) (bytesWorld_range' wB _) (by omega)).mono ?_; rintro e w3 ⟨rfl, hf3', hd3'⟩; have hfr3 : Fr [p3, l3, m3] wr w3 := (hfW.mono (by simp)).trans (hf3'.mono (by simp)); rw [burnF_neg] at hd3'; have hck3 := cell_fr hfr3 hck (by simp; omega)))
            all_goals
              cases hb8 : (bits BinOp.and IntKind.i64 z 8 == 8)
              · go_wp2_with fail
                go_roundw
                case rel => exact ⟨i + 1, c' + 1, _, _, by omega, by go_num, hI.next hfr3 hd3' (by omega)⟩
                case measure => simp [intOf]; omega
              · go_wp2_with fail
                refine (flush_ok w3 p3 l3 m3 8 q3 (c' + 1) (-1) _ _ hd3' (by omega) (by decide) (by decide)).mono ?_
                rintro e w4 ⟨rfl, hf4', hd4'⟩
                rw [burnF_neg] at hd4'
                go_wp2_with fail
                go_roundw
                case rel => exact ⟨i + 1, c' + 1 + 1, _, _, by omega, by go_num, hI.next (hfr3.trans hf4') hd4' (by omega)⟩
                case measure => simp [intOf]; omega
          · go_wp2_with fail
            go_meet
            exact ⟨c', ls', wt', hI.dev, by omega, hI.fr⟩
        · go_wp2_with fail
          go_meet
          exact ⟨c', ls', wt', hI.dev, by omega, hI.fr⟩
    case rest =>
      obtain ⟨c', ls', wt', hd5, hcb5, hF5⟩ := hcut
      obtain ⟨w5, hw5⟩ : ∃ w5, w5 = wc := ⟨_, rfl⟩
      rw [← hw5] at hd5 hF5 ⊢
      clear hw5
      go_wp2_with fail
      refine (crash_calls w5 p3 l3 m3 8 q3 c' (-1) false ls' wt' hd5 false none 0 0 [] ⟨Nat.le_refl _, fun h => by omega⟩ (by decide) (by simp)).mono ?_
      rintro e w6 ⟨rfl, hf6, _⟩
      have hF6 := hF5.trans hf6
      have hd6 := HD4O.out.keep hF6 (by simp; omega) (by simp; omega) (by simp; omega)
      have hd6' := HD4.out.keep hF6 (by simp; omega) (by simp; omega) (by simp; omega)
      have hFw6 : Fr [] w w6 := hF4.trans_new hF6 (by intro x hx; simp at hx; omega)
      have hz6 := hF6.size
      clear hd5 hF5 hf6 hF6 HD4O HD4
      go_wp2_with fail
      refine (waiting_calls w6 p l m 8 8 c (-1) false ls wt hd6).mono ?_
      rintro e w7 ⟨v1, ks1, rfl, hk1, hn1, _, ho1, _, hf7⟩
      obtain ⟨ad1, cap1', rfl⟩ := owns_slice ho1
      have hd7 := hd6.keep hf7 (by simp) (by simp) (by simp)
      have hd7' := hd6'.keep hf7 (by simp) (by simp) (by simp)
      have hFw7 := hFw6.trans hf7
      have hz7 := hf7.size
      clear ho1 hd6 hd6' hFw6 hf7
      go_wp2_with fail
      refine (waiting_calls w7 p4 l4 m4 8 q4 c (-1) false ls wt hd7').mono ?_
      rintro e w8 ⟨v2, ks2, rfl, hk2, hn2, _, ho2, _, hf8⟩
      obtain ⟨ad2, cap2', rfl⟩ := owns_slice ho2
      have hd8 := hd7.keep hf8 (by simp) (by simp) (by simp)
      have hd8' := hd7'.keep hf8 (by simp) (by simp) (by simp)
      have hFw8 := hFw7.trans hf8
      have hz8 := hf8.size
      have hlen : ks1.length = ks2.length := ((List.perm_ext_iff_of_nodup hn1 hn2).2 (fun x => (hk1 x).trans (hk2 x).symm)).length_eq
      have hne : ((ks1.length : Int) != (ks2.length : Int)) = false := by simp [hlen]
      clear ho2 hd7 hd7' hFw7 hf8 hk1 hk2 hn1 hn2 hlen
      go_wp2_with fail
      refine (crash_calls w8 p l m 8 8 c (-1) false ls wt hd8 true a0 len0 cap0 z0 (HR.out.ints hFw8) hlen0 (fun h0 x hx => by have := HR.out.block h0 x hx; omega)).mono ?_
      rintro e w9 ⟨rfl, hf9, m9, hm9, hd9⟩
      have hd9' := hd8'.keep hf9 (by simp; omega) (by simp; omega) (by simp; omega)
      have hFw9 : Fr [] w w9 := hFw8.trans_new hf9 (by intro x hx; simp at hx; omega)
      have hz9 := hf9.size
      have hm9' : m9 ≠ p4 ∧ m9 ≠ l4 ∧ m9 ≠ m4 ∧ w.heap.size ≤ m9 ∧ m9 < w9.heap.size := by have := hd9.wai.lt; omega
      clear hd8 hd8' hFw8 hf9 hm9
      go_wp2_with fail
      refine (crash_calls w9 p4 l4 m4 8 q4 c (-1) false ls wt hd9' true a0 len0 cap0 z0 (HR.out.ints hFw9) hlen0 (fun h0 x hx => by have := HR.out.block h0 x hx; omega)).mono ?_
      rintro e w10 ⟨rfl, hf10, m10, hm10, hd10'⟩
      have hd10 := hd9.keep hf10 (by simp; omega) (by simp; omega) (by simp; omega)
      have hFw10 : Fr [] w w10 := hFw9.trans_new hf10 (by intro x hx; simp at hx; omega)
      have hz10 := hf10.size
      have hm10' : m10 ≠ p ∧ m9 ≠ p4 := by omega
      obtain ⟨LS, hLS⟩ : ∃ LS : Nat → List UInt8, LS = fun i : Nat => (without wt z0 len0 (i : Int)).getD (ls i) := ⟨_, rfl⟩
      have HD10 : Hid (DevAt w10 p l m9 8 8 c (-1) false LS (fun _ => none)) := Lib.hid (by rw [hLS]; simpa using hd10)
      have HD10' : Hid (DevAt w10 p4 l4 m10 8 q4 c (-1) false LS (fun _ => none)) := Lib.hid (by rw [hLS]; simpa using hd10')
      obtain ⟨w4size, hw4s⟩ : ∃ k, k = w10.heap.size := ⟨_, rfl⟩
      have hlt10 := lt_of_heap hd10.box; have hlt10' := lt_of_heap hd10'.box
      clear hd9 hd9' hFw9 hf10 hm10 hd10 hd10' hLS
      go_wp2_with fail
      go_loopw [11] (fun v11 wr => ∃ (i : Nat) (c1 c2 : Int), i ≤ 8 ∧ v11 = .int .i64 i ∧ DevAt wr p l m9 8 8 c1 (-1) false LS (fun _ => none) ∧ DevAt wr p4 l4 m10 8 q4 c2 (-1) false LS (fun _ => none) ∧ Fr [] w wr ∧ (0 ≤ c1 ∧ c1 ≤ 40 + i) ∧ (0 ≤ c2 ∧ c2 ≤ 40 + i) ∧ w4size ≤ wr.heap.size) (fun v11 _ => 8 - (intOf v11).toNat)
      case atStart => exact ⟨0, c, c, by omega, rfl, HD10.out, HD10'.out, hFw10, by omega, by omega, by omega⟩
      case round =>
        obtain ⟨i, c1, c2, hi, rfl, hD, hD', hFr, hc1, hc2, hsz⟩ := hrel
        by_cases h8 : i < 8
        · go_wp2_with fail
          refine (read_ok wr p l m9 8 8 c1 (-1) _ _ hD (by omega) i h8).mono ?_
          rintro e x1 ⟨vr1, rfl, hg1, hE1, hO1⟩
          obtain ⟨g1, cp1, rfl, hgb1, hgl1, hgr1, _⟩ := owns_range hO1 (by decide)
          have hE1' := hD'.keep hg1 (by simp; omega) (by simp; omega) (by simp; omega)
          go_wp2_with fail
          refine (read_ok x1 p4 l4 m10 8 q4 c2 (-1) _ _ hE1' (by omega) i h8).mono ?_
          rintro e x2 ⟨vr2, rfl, hg2, hE2', hO2⟩
          obtain ⟨g2, cp2, rfl, hgb2, hgl2, hgr2, _⟩ := owns_range hO2 (by decide)
          have hE2 := hE1.keep hg2 (by simp; omega) (by simp; omega) (by simp; omega)
          have hgr1' := range_keep hgr1 hg2 (by simp; omega)
          obtain ⟨S, hS⟩ : ∃ S, secNow LS (fun _ => none) i = S := ⟨_, rfl⟩
          rw [hS] at hgr1' hgr2
          have hSl : S.length = 64 := by
            obtain ⟨_, _, _, h3⟩ := hD.las
            rw [← hS]; exact (h3 i h8).1
          have hs1 : (convert 28 9 (.slice (some ⟨g1, 0, none⟩) 64 cp1)).run Try.prog x2 = .ok (.string ⟨S.toArray⟩) x2 := run_toString Try.underlying28 Try.underlying5 Try.underlying9 g1 0 cp1 S 64 hSl hgr1'
          have hs2 : (convert 28 9 (.slice (some ⟨g2, 0, none⟩) 64 cp2)).run Try.prog x2 = .ok (.string ⟨S.toArray⟩) x2 := run_toString Try.underlying28 Try.underlying5 Try.underlying9 g2 0 cp2 S 64 hSl hgr2
          have hFr2 : Fr [] w x2 := (hFr.trans_new hg1 (by intro x hx; simp at hx; omega)).trans_new hg2 (by intro x hx; simp at hx; omega)
          have hszx : w4size ≤ x2.heap.size := by have := hg1.size; have := hg2.size; omega
          clear hgr1 hgr1' hgr2 hO1 hO2 hE1 hE1' hD hD' hSl hS
          go_wp2_with fail
          go_roundw
          case rel => exact ⟨i + 1, c1 + 1, c2 + 1, by omega, by go_num, hE2, hE2', hFr2, by omega, by omega, hszx⟩
          case measure => simp [intOf]; omega
        · go_wp2_with fail
          refine (awake_calls wr).mono ?_
          rintro e w7 ⟨rfl, hf7⟩
          go_wp2_with fail
          go_ret
          exact ⟨rfl, (hFr.trans hf7).below (Nat.le_refl _) (by simp)⟩
/-! ### THE ROW's STEP: WRITTEN OUT: LEAVE IT -/
set_option maxRecDepth 100000 in
theorem lifted (os : Os) (started : os.Started) (H : Type) (enc : TypeId × Value → H) :
    ReturnsInHanded {} Try.checked os 4 .any (Rows.devApartSpec.pre6 enc Try.prog Try.f4 Rows.devApartRow.domain false) (Rows.devApartSpec.post enc Try.prog Try.f4 false true false false) := by
  refine returnsInHanded_of_change (C := Try.checked) own started (by kernel_rfl) Try.func4
    (ChangeSpec.witness6 (enc := enc) (C := Try.checked) false ⟨#[], #[.slice none 0 0, .slice none 0 0], []⟩ 8 (by kernel_rfl) (by kernel_rfl) (by kernel_rfl) (by kernel_rfl)) ?_
  intro W base args ds gs before hval0 hW hcnd _
  have hval : ∀ (j : Nat) t v, Try.f4.params[j]? = some t → args[j]? = some v → Value.okWide Try.prog W .any base t v := hval0
  have hW' := hW
  obtain ⟨p, q, hA0, hV, rfl, hfz, hnd⟩ := hW
  have hA : DataW.TrodAll enc Try.prog W 0 (fun _ => true) true Try.f4.params.toList args.toList ds p := hA0
  rw [Try.params4] at hA hval
  obtain ⟨v0, vs0, d0, ds0, p0, q0, hargs, rfl, rfl, h0, r0⟩ := trodAll_cons hA
  obtain ⟨v1, vs1, d1, ds1, p1, q1, rfl, rfl, rfl, h1, r1⟩ := trodAll_cons r0
  obtain ⟨rfl, rfl, rfl⟩ := trodAll_nil r1
  obtain rfl : args = #[v0, v1] := by cases args; simp_all
  obtain ⟨rfl, rfl⟩ := trodVars_none hV
  obtain ⟨a0, len0, cap0, rfl⟩ := okWide_slice Try.underlying22 (hval 0 22 v0 rfl rfl)
  have k0 := h0
  have lt0 : ∀ x ∈ p0, x.block < W.heap.size := by obtain ⟨m, hm⟩ := k0; exact DataW.trod_lt m _ _ _ hm
  obtain ⟨z0, w0⟩ : ∃ zs, IsRow .i64 W a0 len0 cap0 zs := by
    obtain ⟨fuel, hf⟩ := h0
    rcases open_ints Try.underlying22 Try.underlying3 (by kernel_rfl) hf with ⟨hcs, _⟩ | ⟨x, l, c, zs, hcs, _, hl, hm, hz, _, hcell, hwz⟩
    · simp [Value.cells] at hcs
      obtain ⟨rfl, rfl, rfl⟩ := hcs
      exact ⟨[], .inl ⟨rfl, rfl, rfl, rfl⟩⟩
    · simp [Value.cells] at hcs
      obtain ⟨rfl, rfl, rfl⟩ := hcs
      exact ⟨zs, .inr ⟨_, rfl, hl, hm, by simpa using hz, hcell, hwz⟩⟩
  obtain ⟨a1, len1, cap1, rfl⟩ := okWide_slice Try.underlying22 (hval 1 22 v1 rfl rfl)
  have k1 := h1
  have lt1 : ∀ x ∈ p1, x.block < W.heap.size := by obtain ⟨m, hm⟩ := k1; exact DataW.trod_lt m _ _ _ hm
  obtain ⟨z1, w1⟩ : ∃ zs, IsRow .i64 W a1 len1 cap1 zs := by
    obtain ⟨fuel, hf⟩ := h1
    rcases open_ints Try.underlying22 Try.underlying3 (by kernel_rfl) hf with ⟨hcs, _⟩ | ⟨x, l, c, zs, hcs, _, hl, hm, hz, _, hcell, hwz⟩
    · simp [Value.cells] at hcs
      obtain ⟨rfl, rfl, rfl⟩ := hcs
      exact ⟨[], .inl ⟨rfl, rfl, rfl, rfl⟩⟩
    · simp [Value.cells] at hcs
      obtain ⟨rfl, rfl, rfl⟩ := hcs
      exact ⟨zs, .inr ⟨_, rfl, hl, hm, by simpa using hz, hcell, hwz⟩⟩
  clear hA0 hval0
  refine (walk a0 len0 cap0 z0 a1 len1 cap1 z1 W w0 w1).mono fun e W' ⟨he, bel⟩ => ?_
  subst he
  exact ⟨_, rfl, _, _, _, [], _, [], hW', trodAll_mk1 (shut_bool Try.underlying4 _), (trodAll_cons_mk (Below.trod laidOut (by kernel_rfl) (of_decide_eq_true (by kernel_rfl)) k0 bel lt0) (trodAll_cons_mk (Below.trod laidOut (by kernel_rfl) (of_decide_eq_true (by kernel_rfl)) k1 bel lt1) trodAll_mk0)), rfl, bel.frame _, fun h => by cases h⟩

theorem over : Rows.devApartRow.holds Try.pinned (OpenSpec.ofChange Rows.devApartSpec) :=
  OpenClaim.holds_of_wide 4 Try.f4 rfl rfl rfl rfl rfl rfl rfl ⟨rfl, rfl, rfl, rfl, rfl⟩ rfl rfl rfl rfl rfl (by kernel_rfl) Try.func4 (by kernel_rfl)
    (of_decide_eq_true (by kernel_rfl)) (by unfold Func.isWrapper; first | (rw [if_pos (by decide +kernel)]; kernel_rfl) | (rw [if_neg (by decide +kernel)]; exact ⟨rfl, rfl⟩))
    (fun os started H enc _ => lifted os started H enc)

theorem proved : Rows.DevApartSaid := over
end Go.Proofs.Ythjoakgcmelhmaa.devApart

