/-
  For every list of kinds and every fuse, DevFuses returns true and leaves its arguments as they were.
-/
import Derived.Test.YthjoakgcmelhmaaRows
import Derived.Test.YthjoakgcmelhmaaDevAwake
import Derived.ProofKit
import Derived.OpenShut
import Derived.ShutString
import Derived.ChangeOld
import Derived.Below
import Derived.Deep.RegionHeld3
import Derived.Test.YthjoakgcmelhmaaMask
namespace Go.Proofs.Ythjoakgcmelhmaa.devFuses
open Go.ChangeShapes Go.WideShapes Go.ChangeAt Go.RowKit Go.MapKept
open Go.ChangeMaps (open_string shut_string)
set_option linter.unusedVariables false
theorem own : ownKnob Try.prog.godebug = none := by kernel_rfl
theorem laidOut : laidOutB Try.prog = true := by kernel_rfl
/-- A slice of ints that came in. -/
def IsRow (k : IntKind) (w : World) (a : Option Addr) (len cap : Nat) (zs : List Int) : Prop :=
  (a = none ∧ len = 0 ∧ cap = 0 ∧ zs = []) ∨
  ∃ x, a = some x ∧ len ≤ cap ∧ cap ≤ maxLen ∧ zs.length = cap ∧ (∀ i, i < zs.length → w.cell? (x.add i) = some (.int k (zs.getD i 0))) ∧ ∀ n ∈ zs, (Lit.int k n).wf = true
theorem bytesWorld_fr (W : World) (b : ByteArray) : Fr [] W (Lib.bytesWorld W 5 b) := ⟨rfl, rfl, rfl, by rw [Lib.bytesWorld_size]; omega, fun k hk _ => Lib.bytesWorld_at_old W _ _ k hk⟩
theorem bytesWorld_range (W : World) (s : List UInt8) : (Lib.bytesWorld W 5 ⟨s.toArray⟩).rangeAt W.heap.size 0 (cel s) := by
  have hsz : (⟨s.toArray⟩ : ByteArray).size = s.length := by simp [ByteArray.size]
  intro j v hv
  have hj : j < s.length := by have := (List.getElem?_eq_some_iff.1 hv).1; rwa [cel_length] at this
  rw [Nat.zero_add, Lib.bytesWorld_cell W _ _ j (by rw [hsz]; exact hj)]
  rw [cel_get] at hv
  simpa [hj] using hv
theorem burnF_pos {f : Int} (h : 0 < f) : burnF f = f - 1 := by unfold burnF; rw [if_pos h]
/-- What holds of the device at each round's head. -/
structure Inv (w : World) (p l m : Nat) (left : Int) (i : Nat) (wr : World) (c : Int) (d : Bool) (ls : Nat → List UInt8) (wt : Int → Option (List UInt8)) : Prop where
  dev : DevAt wr p l m 8 c left d ls wt
  fr : Fr [] w wr
  lb : 0 ≤ left ∧ left ≤ 31
  cb : 0 ≤ c ∧ c ≤ 2 * i
  dd : d = true → left = 0
theorem Inv.next {w : World} {p l m : Nat} {left : Int} {i : Nat} {wr w' : World} {c : Int} {d : Bool} {ls : Nat → List UInt8} {wt : Int → Option (List UInt8)} (h : Inv w p l m left i wr c d ls wt)
    (hp : w.heap.size ≤ p) (hl : w.heap.size ≤ l) (hm : w.heap.size ≤ m) (hfr : Fr [p, l, m] wr w') {left' c' : Int} {d' : Bool} {ls' : Nat → List UInt8} {wt' : Int → Option (List UInt8)}
    (hd : DevAt w' p l m 8 c' left' d' ls' wt') (hlb : 0 ≤ left' ∧ left' ≤ 31) (hcb : 0 ≤ c' ∧ c' ≤ c + 2) (hdd : d' = true → left' = 0) : Inv w p l m left' (i + 1) w' c' d' ls' wt' :=
  ⟨hd, h.fr.trans_new hfr (by intro x hx; simp at hx; omega), hlb, by have := h.cb; omega, hdd⟩
set_option maxRecDepth 100000 in
set_option maxHeartbeats 2000000 in
theorem walk (a0 : Option Addr) (len0 cap0 : Nat) (z0 : List Int) (a1 : Int) (w : World) (w0 : IsRow .i64 w a0 len0 cap0 z0) (w1 : (Lit.int .i64 a1).wf = true) :
    Calls Try.prog 3 #[.slice a0 len0 cap0, .int .i64 a1] w fun e w' => e = .returned (.bool true) ∧ Below w.heap.size w w' := by
  have hlen : len0 ≤ 9223372036854775807 := by
    rcases w0 with ⟨_, h, _⟩ | ⟨_, _, h, h', _⟩
    · omega
    · unfold maxLen at h'; omega
  have HR := Lib.hid w0; clear w0
  obtain ⟨K, hK⟩ : ∃ K, bits BinOp.and IntKind.i64 a1 31 = K := ⟨_, rfl⟩
  have hK0 : 0 ≤ K ∧ K ≤ 31 := by rw [← hK, mask31]; omega
  go_enter Try.func3, Try.ntmps3
  go_wp2_with fail
  refine (new_ok w 8 (by decide)).mono ?_
  rintro e v1 ⟨p, l, m, rfl, hf1, hp, hl, hm, hd1⟩
  go_wp2_with fail
  refine (fuse_calls v1 p l m 8 0 (-1) false _ _ hd1 K).mono ?_
  rintro e v2 ⟨rfl, hf2, hd2⟩
  have hstart : Inv w p l m K 0 v2 0 false _ _ := ⟨hd2, hf1.trans_new hf2 (by intro x hx; simp at hx; omega), hK0, by omega, by simp⟩
  have HST := Lib.hid hstart
  clear hstart hd1 hd2 hf1 hf2 hK hK0
  go_wp2_with fail
  go_loopw [7, 8] (fun v7 v8 wr => ∃ (i : Nat) (left c : Int) (d : Bool) (ls : Nat → List UInt8) (wt : Int → Option (List UInt8)), i ≤ 60 ∧ v7 = .int .i64 left ∧ v8 = .int .i64 i ∧ Inv w p l m left i wr c d ls wt) (fun _ v8 _ => 60 - (intOf v8).toNat)
  case atStart => exact ⟨0, K, 0, false, _, _, by omega, rfl, rfl, HST.out⟩
  case round =>
    obtain ⟨i, left, c, d, ls, wt, hi, rfl, rfl, hI⟩ := hrel
    have hI1 := hI.lb; have hI2 := hI.cb
    by_cases hlt : i < len0
    · obtain ⟨kb, ko, rfl, hcell⟩ : ∃ kb ko, a0 = some ⟨kb, ko, none⟩ ∧ ∀ j, j < z0.length → w.cell? ⟨kb, ko + j, none⟩ = some (.int .i64 (z0.getD j 0)) := by
        rcases HR.out with ⟨_, h, _⟩ | ⟨x, hx, h1, _, h3, h4, _⟩
        · omega
        · obtain ⟨b, off, e1, e2⟩ := ints_at h4 (by omega)
          exact ⟨b, off, by rw [hx, e1], e2⟩
      have hzl : i < z0.length := by
        rcases HR.out with ⟨_, h, _⟩ | ⟨x, hx, h1, _, h3, h4, _⟩
        · omega
        · omega
      have hcw := hcell i hzl
      obtain ⟨z, hze⟩ : ∃ z, z0.getD i 0 = z := ⟨_, rfl⟩
      rw [hze] at hcw
      have hkb : kb < w.heap.size := World.block_lt_of_cell? _ _ hcw
      have hck : wr.cell? ⟨kb, ko + i, none⟩ = some (.int .i64 z) := by
        rw [World.cell?_of_block (w := w) (hI.fr.block kb hkb (by simp))]; exact hcw
      clear hcell hzl hcw hze
      by_cases h60 : i < 60
      · have hb7 : bits BinOp.and IntKind.i64 (i : Int) 7 = ((i % 8 : Nat) : Int) := by rw [mask7]; omega
        have hi8 : i % 8 < 8 := by omega
        have hcv : ∀ W : World, (convert 9 28 (.string ⟨(bys i 64).toArray⟩)).run Try.prog W = .ok (.slice (some ⟨W.heap.size, 0, none⟩) 64 (grownCap W 64 0 5)) (Lib.bytesWorld W 5 ⟨(bys i 64).toArray⟩) := fun W => by
          have h := Lib.run_convert_string_bytes (P := Try.prog) W 9 28 5 ⟨(bys i 64).toArray⟩ Try.underlying9 Try.underlying28 Try.underlying5
          have hsz : (⟨(bys i 64).toArray⟩ : ByteArray).size = 64 := by simp [ByteArray.size, bys_length]
          rw [hsz] at h; exact h
        have hcw : ∀ W : World, kb < W.heap.size → (Lib.bytesWorld W 5 ⟨(bys i 64).toArray⟩).cell? ⟨kb, ko + i, none⟩ = W.cell? ⟨kb, ko + i, none⟩ := fun W h => Lib.bytesWorld_old W _ _ _ h
        obtain ⟨k7, hk7, hk8⟩ : ∃ k7 : Nat, bits BinOp.and IntKind.i64 z 7 = (k7 : Int) ∧ k7 < 8 := ⟨(z % 8).toNat, by rw [mask7]; omega, by omega⟩
        cases d with
        | true =>
          obtain rfl : left = 0 := hI.dd rfl
          go_wp2_with fail
          refine (read_dead wr p l m 8 c 0 ls wt hI.dev ((i % 8 : Nat) : Int)).mono ?_
          rintro e wq ⟨rfl, rfl⟩
          have hdr := hI.dev
          have hckr := hck
          have hfr1 : Fr [p, l, m] wr wr := Fr.refl _ _
          go_wp2_with fail
          refine (dead_calls wr p l m 8 c 0 true ls wt hdr).mono ?_
          rintro e wq ⟨rfl, rfl⟩
          by_cases h3 : z % 4 = 0
          · have hb3 : (bits BinOp.and IntKind.i64 z 3 == 0) = true := by rw [mask3]; simpa using h3
            clear h3
            go_wp2_with fail
            refine (flush_dead wr p l m 8 c 0 ls wt hdr).mono ?_
            rintro e wq ⟨rfl, rfl⟩
            have hd3 := hdr
            have hfr3 := hfr1
            go_wp2_with fail
            refine (dead_calls _ p l m 8 _ _ true _ _ hd3).mono ?_
            rintro e wq ⟨rfl, rfl⟩
            go_wp2_with fail
            go_roundw
            case rel => exact ⟨i + 1, 0, c, true, _, _, by omega, rfl, by go_num, hI.next hp hl hm hfr3 hd3 (by omega) (by omega) (by simp)⟩
            case measure => simp [intOf]; omega
          · have hb3 : (bits BinOp.and IntKind.i64 z 3 == 0) = false := by rw [mask3]; simpa using h3
            clear h3
            go_wp2_with fail
            go_region_with (first | (go_at_call 13; refine (bytes_calls _ i 64 (by decide) (by omega)).mono ?_; rintro e wB ⟨rfl, hfB⟩; have hckB : wB.cell? ⟨kb, ko + i, none⟩ = some (.int .i64 z) := (World.cell?_of_block (hfB.block kb (World.block_lt_of_cell? _ _ hckr) (by simp))).trans hckr; have hkB := World.block_lt_of_cell? _ _ hckB; have hpB : p < wB.heap.size := Nat.lt_of_lt_of_le (lt_of_heap hdr.box) hfB.size) | (go_at_call 12; have hfW : Fr [] wr (Lib.bytesWorld wB 5 ⟨(bys i 64).toArray⟩) := (((Fr.refl [] wr).drew).trans hfB).trans (bytesWorld_fr wB _); have hdW := hdr.keep hfW (by simp) (by simp) (by simp); refine (write_dead _ p l m 8 c 0 ls wt hdW _ _).mono ?_; rintro e wW ⟨rfl, rfl⟩; have hd3 := hdW; have hfr3 : Fr [p, l, m] wr _ := hfr1.trans (hfW.mono (by simp))))
            all_goals
              go_wp2_with fail
              refine (dead_calls _ p l m 8 _ _ true _ _ hd3).mono ?_
              rintro e wq ⟨rfl, rfl⟩
              go_wp2_with fail
              go_roundw
              case rel => exact ⟨i + 1, 0, c, true, _, _, by omega, rfl, by go_num, hI.next hp hl hm hfr3 hd3 (by omega) (by omega) (by simp)⟩
              case measure => simp [intOf]; omega
        | false =>
          by_cases hl0 : 0 < left
          · go_wp2_with fail
            refine (read_ok wr p l m 8 c left ls wt hI.dev (by omega) (i % 8) hi8).mono ?_
            rintro e w1 ⟨vr, rfl, hfr0, hdr, _⟩
            have hfr1 : Fr [p, l, m] wr w1 := hfr0.mono (by simp)
            have hckr : w1.cell? ⟨kb, ko + i, none⟩ = some (.int .i64 z) := by
              rw [World.cell?_of_block (w := wr) (hfr0.block kb (World.block_lt_of_cell? _ _ hck) (by simp; omega))]; exact hck
            clear hck hfr0
            go_wp2_with fail
            refine (dead_calls w1 p l m 8 (c + 1) left false ls wt hdr).mono ?_
            rintro e wq ⟨rfl, rfl⟩
            by_cases h3 : z % 4 = 0
            · have hb3 : (bits BinOp.and IntKind.i64 z 3 == 0) = true := by rw [mask3]; simpa using h3
              clear h3
              go_wp2_with fail
              refine (flush_ok w1 p l m 8 (c + 1) left ls wt hdr (by omega) (by omega) (by omega)).mono ?_
              rintro e w3 ⟨rfl, hf3, hd3⟩
              have hfr3 : Fr [p, l, m] wr w3 := hfr1.trans hf3
              rw [burnF_pos hl0] at hd3
              go_wp2_with fail
              go_roundw
              case rel => exact ⟨i + 1, left - 1, c + 1 + 1, false, _, _, by omega, rfl, by go_num, hI.next hp hl hm hfr3 hd3 (by omega) (by omega) (by simp)⟩
              case measure => simp [intOf]; omega
            · have hb3 : (bits BinOp.and IntKind.i64 z 3 == 0) = false := by rw [mask3]; simpa using h3
              clear h3
              go_wp2_with fail
              go_region_with (first | (go_at_call 13; refine (bytes_calls _ i 64 (by decide) (by omega)).mono ?_; rintro e wB ⟨rfl, hfB⟩; have hckB : wB.cell? ⟨kb, ko + i, none⟩ = some (.int .i64 z) := (World.cell?_of_block (hfB.block kb (World.block_lt_of_cell? _ _ hckr) (by simp))).trans hckr; have hkB := World.block_lt_of_cell? _ _ hckB; have hpB : p < wB.heap.size := Nat.lt_of_lt_of_le (lt_of_heap hdr.box) hfB.size) | (go_at_call 12; have hfW : Fr [] w1 (Lib.bytesWorld wB 5 ⟨(bys i 64).toArray⟩) := (((Fr.refl [] w1).drew).trans hfB).trans (bytesWorld_fr wB _); have hdW := hdr.keep hfW (by simp) (by simp) (by simp); refine (write_ok _ p l m 8 (c + 1) left ls wt hdW (by omega) (by omega) (by omega) k7 (by omega) wB.heap.size 0 _ (bys i 64) (bys_length _ _) (bytesWorld_range wB _) (by omega)).mono ?_; rintro e w3 ⟨rfl, hf3, hd3⟩; have hfr3 : Fr [p, l, m] wr w3 := (hfr1.trans (hfW.mono (by simp))).trans (hf3.mono (by simp)); rw [burnF_pos hl0] at hd3))
              all_goals
                go_wp2_with fail
                go_roundw
                case rel => exact ⟨i + 1, left - 1, c + 1 + 1, false, _, _, by omega, rfl, by go_num, hI.next hp hl hm hfr3 hd3 (by omega) (by omega) (by simp)⟩
                case measure => simp [intOf]; omega
          · have hl0 : left = 0 := by omega
            subst hl0
            go_wp2_with fail
            refine (read_ok wr p l m 8 c 0 ls wt hI.dev (by omega) (i % 8) hi8).mono ?_
            rintro e w1 ⟨vr, rfl, hfr0, hdr, _⟩
            have hfr1 : Fr [p, l, m] wr w1 := hfr0.mono (by simp)
            have hckr : w1.cell? ⟨kb, ko + i, none⟩ = some (.int .i64 z) := by
              rw [World.cell?_of_block (w := wr) (hfr0.block kb (World.block_lt_of_cell? _ _ hck) (by simp; omega))]; exact hck
            clear hck hfr0
            go_wp2_with fail
            refine (dead_calls w1 p l m 8 (c + 1) 0 false ls wt hdr).mono ?_
            rintro e wq ⟨rfl, rfl⟩
            by_cases h3 : z % 4 = 0
            · have hb3 : (bits BinOp.and IntKind.i64 z 3 == 0) = true := by rw [mask3]; simpa using h3
              clear h3
              go_wp2_with fail
              refine (flush_burnt w1 p l m 8 (c + 1) ls wt hdr (by omega)).mono ?_
              rintro e w3 ⟨rfl, hf3, hd3⟩
              have hfr3 : Fr [p, l, m] wr w3 := hfr1.trans (hf3.mono (by simp))
              go_wp2_with fail
              refine (dead_calls _ p l m 8 _ _ true _ _ hd3).mono ?_
              rintro e wq ⟨rfl, rfl⟩
              go_wp2_with fail
              go_roundw
              case rel => exact ⟨i + 1, 0, c + 1, true, _, _, by omega, rfl, by go_num, hI.next hp hl hm hfr3 hd3 (by omega) (by omega) (by simp)⟩
              case measure => simp [intOf]; omega
            · have hb3 : (bits BinOp.and IntKind.i64 z 3 == 0) = false := by rw [mask3]; simpa using h3
              clear h3
              go_wp2_with fail
              go_region_with (first | (go_at_call 13; refine (bytes_calls _ i 64 (by decide) (by omega)).mono ?_; rintro e wB ⟨rfl, hfB⟩; have hckB : wB.cell? ⟨kb, ko + i, none⟩ = some (.int .i64 z) := (World.cell?_of_block (hfB.block kb (World.block_lt_of_cell? _ _ hckr) (by simp))).trans hckr; have hkB := World.block_lt_of_cell? _ _ hckB; have hpB : p < wB.heap.size := Nat.lt_of_lt_of_le (lt_of_heap hdr.box) hfB.size) | (go_at_call 12; have hfW : Fr [] w1 (Lib.bytesWorld wB 5 ⟨(bys i 64).toArray⟩) := (((Fr.refl [] w1).drew).trans hfB).trans (bytesWorld_fr wB _); have hdW := hdr.keep hfW (by simp) (by simp) (by simp); refine (write_burnt _ p l m 8 (c + 1) ls wt hdW (by omega) k7 (by omega) _ _).mono ?_; rintro e w3 ⟨rfl, hf3, hd3⟩; have hfr3 : Fr [p, l, m] wr w3 := (hfr1.trans (hfW.mono (by simp))).trans (hf3.mono (by simp))))
              all_goals
                go_wp2_with fail
                refine (dead_calls _ p l m 8 _ _ true _ _ hd3).mono ?_
                rintro e wq ⟨rfl, rfl⟩
                go_wp2_with fail
                go_roundw
                case rel => exact ⟨i + 1, 0, c + 1, true, _, _, by omega, rfl, by go_num, hI.next hp hl hm hfr3 hd3 (by omega) (by omega) (by simp)⟩
                case measure => simp [intOf]; omega
      · go_wp2_with fail
        refine (crash_calls wr p l m 8 c left d ls wt hI.dev true none 0 0 [] ⟨Nat.le_refl _, by simp, fun h => by omega⟩ (by decide) (by simp)).mono ?_
        rintro e w4 ⟨rfl, hf4, m4, hm4, hd4⟩
        have hF4 : Fr [] w w4 := hI.fr.trans_new hf4 (by intro x hx; simp at hx; omega)
        have hm4' : w.heap.size ≤ m4 := by have := hI.fr.size; omega
        clear hf4 hm4
        go_wp2_with fail
        refine (dead_calls w4 p l m4 8 c (-1) false _ _ hd4).mono ?_
        rintro e w5 ⟨rfl, rfl⟩
        go_wp2_with fail
        refine (flush_ok w4 p l m4 8 c (-1) _ _ hd4 (by omega) (by decide) (by decide)).mono ?_
        rintro e w6 ⟨rfl, hf6, hd6⟩
        have hF6 : Fr [] w w6 := hF4.trans_new hf6 (by intro x hx; simp at hx; omega)
        clear hd4 hd6 hf6 hF4
        go_wp2_with fail
        refine (awake_calls w6).mono ?_
        rintro e w7 ⟨rfl, hf7⟩
        go_wp2_with fail
        go_ret
        exact ⟨rfl, (hF6.trans hf7).below (Nat.le_refl _) (by simp)⟩
    · go_wp2_with fail
      refine (crash_calls wr p l m 8 c left d ls wt hI.dev true none 0 0 [] ⟨Nat.le_refl _, by simp, fun h => by omega⟩ (by decide) (by simp)).mono ?_
      rintro e w4 ⟨rfl, hf4, m4, hm4, hd4⟩
      have hF4 : Fr [] w w4 := hI.fr.trans_new hf4 (by intro x hx; simp at hx; omega)
      have hm4' : w.heap.size ≤ m4 := by have := hI.fr.size; omega
      clear hf4 hm4
      go_wp2_with fail
      refine (dead_calls w4 p l m4 8 c (-1) false _ _ hd4).mono ?_
      rintro e w5 ⟨rfl, rfl⟩
      go_wp2_with fail
      refine (flush_ok w4 p l m4 8 c (-1) _ _ hd4 (by omega) (by decide) (by decide)).mono ?_
      rintro e w6 ⟨rfl, hf6, hd6⟩
      have hF6 : Fr [] w w6 := hF4.trans_new hf6 (by intro x hx; simp at hx; omega)
      clear hd4 hd6 hf6 hF4
      go_wp2_with fail
      refine (awake_calls w6).mono ?_
      rintro e w7 ⟨rfl, hf7⟩
      go_wp2_with fail
      go_ret
      exact ⟨rfl, (hF6.trans hf7).below (Nat.le_refl _) (by simp)⟩
/-! ### THE ROW's STEP: WRITTEN OUT: LEAVE IT -/
set_option maxRecDepth 100000 in
theorem lifted (os : Os) (started : os.Started) (H : Type) (enc : TypeId × Value → H) :
    ReturnsInHanded {} Try.checked os 3 .any (Rows.devFusesSpec.pre6 enc Try.prog Try.f3 Rows.devFusesRow.domain false) (Rows.devFusesSpec.post enc Try.prog Try.f3 false true false false) := by
  refine returnsInHanded_of_change (C := Try.checked) own started (by kernel_rfl) Try.func3
    (ChangeSpec.witness6 (enc := enc) (C := Try.checked) false ⟨#[], #[.slice none 0 0, .int .i64 0], []⟩ 8 (by kernel_rfl) (by kernel_rfl) (by kernel_rfl) (by kernel_rfl)) ?_
  intro W base args ds gs before hval0 hW hcnd _
  have hval : ∀ (j : Nat) t v, Try.f3.params[j]? = some t → args[j]? = some v → Value.okWide Try.prog W .any base t v := hval0
  have hW' := hW
  obtain ⟨p, q, hA0, hV, rfl, hfz, hnd⟩ := hW
  have hA : DataW.TrodAll enc Try.prog W 0 (fun _ => true) true Try.f3.params.toList args.toList ds p := hA0
  rw [Try.params3] at hA hval
  obtain ⟨v0, vs0, d0, ds0, p0, q0, hargs, rfl, rfl, h0, r0⟩ := trodAll_cons hA
  obtain ⟨v1, vs1, d1, ds1, p1, q1, rfl, rfl, rfl, h1, r1⟩ := trodAll_cons r0
  obtain ⟨rfl, rfl, rfl⟩ := trodAll_nil r1
  obtain rfl : args = #[v0, v1] := by cases args; simp_all
  obtain ⟨rfl, rfl⟩ := trodVars_none hV
  obtain ⟨a0, len0, cap0, rfl⟩ := okWide_slice Try.underlying22 (hval 0 22 v0 rfl rfl)
  have k0 := h0
  have lt0 : ∀ x ∈ p0, x.block < W.heap.size := by obtain ⟨m, hm⟩ := k0; exact DataW.trod_lt m _ _ _ hm
  obtain ⟨z0, w0⟩ : ∃ zs, IsRow .i64 W a0 len0 cap0 zs := by
    obtain ⟨fuel, hf⟩ := h0
    rcases open_ints Try.underlying22 Try.underlying3 (by kernel_rfl) hf with ⟨hcs, _⟩ | ⟨x, l, c, zs, hcs, _, hl, hm, hz, _, hcell, hwz⟩
    · simp [Value.cells] at hcs
      obtain ⟨rfl, rfl, rfl⟩ := hcs
      exact ⟨[], .inl ⟨rfl, rfl, rfl, rfl⟩⟩
    · simp [Value.cells] at hcs
      obtain ⟨rfl, rfl, rfl⟩ := hcs
      exact ⟨zs, .inr ⟨_, rfl, hl, hm, by simpa using hz, hcell, hwz⟩⟩
  obtain ⟨a1, rfl, rfl, rfl, w1⟩ := open_int Try.underlying3 (hval 1 3 v1 rfl rfl) h1
  clear hA0 hval0
  refine (walk a0 len0 cap0 z0 a1 W w0 w1).mono fun e W' ⟨he, bel⟩ => ?_
  subst he
  exact ⟨_, rfl, _, _, _, [], _, [], hW', trodAll_mk1 (shut_bool Try.underlying4 _), (trodAll_cons_mk (Below.trod laidOut (by kernel_rfl) (of_decide_eq_true (by kernel_rfl)) k0 bel lt0) (trodAll_cons_mk (shut_int Try.underlying3 w1) trodAll_mk0)), rfl, bel.frame _, fun h => by cases h⟩

theorem over : Rows.devFusesRow.holds Try.pinned (OpenSpec.ofChange Rows.devFusesSpec) :=
  OpenClaim.holds_of_wide 3 Try.f3 rfl rfl rfl rfl rfl rfl rfl ⟨rfl, rfl, rfl, rfl, rfl⟩ rfl rfl rfl rfl rfl (by kernel_rfl) Try.func3 (by kernel_rfl)
    (of_decide_eq_true (by kernel_rfl)) (by unfold Func.isWrapper; first | (rw [if_pos (by decide +kernel)]; kernel_rfl) | (rw [if_neg (by decide +kernel)]; exact ⟨rfl, rfl⟩))
    (fun os started H enc _ => lifted os started H enc)

theorem proved : Rows.DevFusesSaid := over
end Go.Proofs.Ythjoakgcmelhmaa.devFuses

