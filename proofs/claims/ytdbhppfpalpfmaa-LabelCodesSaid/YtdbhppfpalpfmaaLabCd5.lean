/-
  The document's read: a set read from the beginning of bytes.
-/
import Derived.Test.YtdbhppfpalpfmaaLabCd4
import Derived.Test.YtdbhppfpalpfmaaLabDb
namespace Go.Proofs.Ytdbhppfpalpfmaa
open Go.RowKit Go.MapKept
def lastZ : Int → List Int → Int
  | p, [] => p
  | _, x :: l => lastZ x l
theorem lastZ_snoc : ∀ (l : List Int) (p t : Int), lastZ p (l ++ [t]) = t
  | [], _, _ => rfl
  | _ :: l, _, t => lastZ_snoc l _ t
theorem upB_snoc : ∀ (l : List Int) (p t : Int), upB p (l ++ [t]) = (upB p l && (decide (lastZ p l < t) && decide (t ≤ 2147483647)))
  | [], p, t => by rw [Bool.eq_iff_iff]; simp only [List.nil_append, upB, lastZ, Bool.and_eq_true, Bool.true_and, and_true]; exact ⟨fun h => ⟨decide_eq_true (of_decide_eq_true h.1), h.2⟩, fun h => ⟨decide_eq_true (of_decide_eq_true h.1), h.2⟩⟩
  | x :: l, p, t => by rw [List.cons_append, upB, upB, upB_snoc l, lastZ]; simp only [Bool.and_assoc]
theorem setB_snoc {l : List Int} (h : setB l = true) (hl : l.length < 16) (t : Int) : setB (l ++ [t]) = (decide (lastZ 0 l < t) && decide (t ≤ 2147483647)) := by
  unfold setB at h ⊢
  rw [Bool.and_eq_true] at h
  rw [upB_snoc, h.2, Bool.true_and, List.length_append, List.length_singleton, decide_eq_true (by omega), Bool.true_and]
def usedB (bs : List Int) : Int := bif (rdS bs).1 == 0 then (bs.length : Int) - ((rdS bs).2.2.length : Int) else 0
def ReadR (w : World) (e : Ending) (w' : World) (bs : List Int) : Prop := ∃ a1 k1, e = .returned (.tuple #[.slice a1 (rdS bs).2.1.length k1, .int .i64 (usedB bs), .int .i64 (rdS bs).1]) ∧ RdI w' a1 k1 (rdS bs).2.1 ∧ (∀ b off, a1 = some ⟨b, off, none⟩ → 0 < (rdS bs).2.1.length → w.heap.size ≤ b) ∧ Fr [] w w'
theorem readR_bad {w w' : World} {bs : List Int} {n : Int} (hn : (n == 0) = false) (h : rdS bs = (n, [], [])) (hf : Fr [] w w') : ReadR w (.returned (.tuple #[.slice none 0 0, .int .i64 0, .int .i64 n])) w' bs := by
  unfold ReadR usedB
  rw [h]
  refine ⟨none, 0, ?_, nil_rdI _, (fun _ _ e => by cases e), hf⟩
  simp only [hn, cond_false, List.length_nil]
theorem four_at {r : List Int} {k : Nat} (h : k + 4 ≤ r.length) : r.drop k = r.getD k 0 :: r.getD (k + 1) 0 :: r.getD (k + 2) 0 :: r.getD (k + 3) 0 :: r.drop (k + 4) := by
  have g : ∀ j, j < r.length → r.drop j = r.getD j 0 :: r.drop (j + 1) := fun j hj => by
    rw [List.drop_eq_getElem_cons hj, List.getD_eq_getElem?_getD, List.getElem?_eq_getElem hj]; rfl
  rw [g k (by omega), g (k + 1) (by omega), g (k + 2) (by omega), g (k + 3) (by omega)]
set_option maxRecDepth 100000 in
set_option maxHeartbeats 4000000 in
theorem read_calls (w : World) (ad : Option Addr) (cap : Nat) (bs : List Int) (h : RdB w ad cap bs) :
    Calls Try.prog 65 #[.slice ad bs.length cap] w fun e w' => ReadR w e w' bs := by
  obtain ⟨i0, hi, hz0, hz1, hz2⟩ := info_parts (show (Try.prog.info? 3).map (fun i => (i.zero, i.size, i.bytes)) = some (some (.int .i64 0), 1, 8) by kernel_rfl)
  have HI := Lib.hid hi; have HZ0 := Lib.hid hz0; have HZ1 := Lib.hid hz1; have HZ2 := Lib.hid hz2
  clear hi hz0 hz1 hz2
  cases bs with
  | nil =>
    simp only [List.length_nil]
    clear h
    go_enter Try.func65, Try.ntmps65
    go_wp2
    go_ret3
    exact readR_bad rfl rfl (Fr.refl _ _)
  | cons x r =>
    obtain ⟨b, off, rfl, hcell, _⟩ := h.cellAt (k := 0) (by simp)
    rw [Nat.add_zero] at hcell
    simp only [List.getD_cons_zero] at hcell
    have hle := h.le
    have hbg := h.big
    have hx := h.isB x (by simp)
    have HALL : Hid (∀ w', Fr [] w w' → ∀ j, j < r.length + 1 → w'.cell? ⟨b, off + j, none⟩ = some (.int .u8 ((x :: r).getD j 0))) := Lib.hid (fun w' hf j hj => by
      obtain ⟨b', o', e', h', _⟩ := (h.keep hf).cellAt (k := j) (by simpa using hj)
      cases e'; exact h')
    have HIS : Hid (∀ j, j < r.length + 1 → 0 ≤ (x :: r).getD j 0 ∧ (x :: r).getD j 0 < 256) := Lib.hid (fun j hj => h.isB _ (by
      have hj' : j < (x :: r).length := by simpa using hj
      rw [List.getD_eq_getElem?_getD, List.getElem?_eq_getElem hj']; exact List.getElem_mem hj'))
    have HF4 : Hid (∀ j, j + 4 ≤ r.length + 1 → (x :: r).drop j = _) := Lib.hid (fun j hj => four_at (r := x :: r) (by simpa using hj))
    have HLE : Hid (∀ j, ((x :: r).drop j).length = r.length + 1 - j) := Lib.hid (fun j => by rw [List.length_drop]; rfl)
    simp only [List.length_cons] at hle hbg ⊢
    obtain ⟨n, hn⟩ : ∃ n, r.length + 1 = n := ⟨_, rfl⟩
    rw [hn] at hle hbg HALL HIS HF4 HLE ⊢
    have HN : Hid ((x :: r).length = n) := Lib.hid (by rw [← hn]; rfl)
    have hn0 : 0 < n := by omega
    have i0' : (0 : Int) < (n : Int) := by omega
    clear hn h
    by_cases big : 16 < x
    · have HR : Hid (rdS (x :: r) = (3, [], [])) := Lib.hid (by rw [rdS, decide_eq_true big]; rfl)
      have db : decide (16 < x) = true := decide_eq_true big
      go_enter Try.func65, Try.ntmps65
      go_wp2_with fail
      go_ret3
      exact readR_bad rfl HR.out (Fr.refl _ _)
    · obtain ⟨cnt, rfl⟩ : ∃ cnt : Nat, x = (cnt : Int) := ⟨x.toNat, by omega⟩
      have hc16 : cnt ≤ 16 := by omega
      have HS0 : Hid (rdS ((cnt : Int) :: r) = rdN (cnt - 0) (lastZ 0 []) [] (((cnt : Int) :: r).drop (1 + 4 * 0))) := Lib.hid (by rw [rdS, decide_eq_false (by omega)]; rfl)
      go_enter Try.func65, Try.ntmps65
      go_wp2_with fail
      go_loopw [6, 7] (fun v6 v7 wr => ∃ (k : Nat) (u : Value) (acc : List Int), k ≤ cnt ∧ v7 = .int .i64 k ∧ u = v6 ∧ wr.ownsRow w.heap.size 3 1 u k (acc.map (Value.int .i64)) ∧ 1 + 4 * k ≤ n ∧ Hid (setB acc = true) ∧ Fr [] w wr ∧ Hid (rdS ((cnt : Int) :: r) = rdN (cnt - k) (lastZ 0 acc) acc (((cnt : Int) :: r).drop (1 + 4 * k)))) (fun _ v7 _ => cnt - (intOf v7).toNat)
      case atStart => exact ⟨0, _, [], by omega, rfl, rfl, by simpa using World.ownsRow_nil _ _ _ _, by omega, Lib.hid rfl, Fr.refl _ _, HS0⟩
      case round =>
        obtain ⟨k, u, acc, hk, rfl, rfl, hown, h1k, HSA, hfr, HSS⟩ := hrel
        have hsz := hfr.size
        have hacc : acc.length = k := by have := hown.1; simp at this; omega
        by_cases hlt : k < cnt
        · obtain ⟨a, ha⟩ : ∃ a : Nat, 1 + 4 * k = a := ⟨_, rfl⟩
          have hai : (1 : Int) + 4 * (k : Int) = (a : Int) := by omega
          rw [ha] at HSS h1k
          have HOW := Lib.hid hown; have HFR := Lib.hid hfr
          clear hown hfr hcell
          by_cases h4 : a + 4 ≤ n
          · have g0 := HALL.out wr HFR.out a (by omega); have g1 := HALL.out wr HFR.out (a + 1) (by omega); have g2 := HALL.out wr HFR.out (a + 2) (by omega); have g3 := HALL.out wr HFR.out (a + 3) (by omega)
            have y0 := HIS.out a (by omega); have y1 := HIS.out (a + 1) (by omega); have y2 := HIS.out (a + 2) (by omega); have y3 := HIS.out (a + 3) (by omega)
            have hd := HF4.out a (by omega)
            have hss := HSS.out
            rw [hd, show cnt - k = (cnt - (k + 1)) + 1 by omega] at hss
            clear hd
            generalize (((cnt : Int) :: r).getD a 0) = x0 at *
            generalize (((cnt : Int) :: r).getD (a + 1) 0) = x1 at *
            generalize (((cnt : Int) :: r).getD (a + 2) 0) = x2 at *
            generalize (((cnt : Int) :: r).getD (a + 3) 0) = x3 at *
            have HEQ : Hid (rdS ((cnt : Int) :: r) = bif (decide (lastZ 0 acc < numB x0 x1 x2 x3) && decide (numB x0 x1 x2 x3 ≤ 2147483647)) then rdN (cnt - (k + 1)) (numB x0 x1 x2 x3) (acc ++ [numB x0 x1 x2 x3]) (((cnt : Int) :: r).drop (a + 4)) else (3, [], [])) := Lib.hid hss
            clear hss HSS
            have j0 : (a : Int) < (n : Int) := by omega
            have j1 : (a : Int) + 1 < (n : Int) := by omega
            have j2 : (a : Int) + 2 < (n : Int) := by omega
            have j3 : (a : Int) + 3 < (n : Int) := by omega
            have HNB : Hid (numB x0 x1 x2 x3 = bits BinOp.or IntKind.i64 (bits BinOp.or IntKind.i64 (bits BinOp.or IntKind.i64 (x0 * 16777216) (x1 * 65536)) (x2 * 256)) x3) := Lib.hid rfl
            go_wp2_with fail
            go_quiet (fail)
            rw [← HNB.out]
            obtain ⟨t, ht⟩ : ∃ t, numB x0 x1 x2 x3 = t := ⟨_, rfl⟩
            rw [ht] at HEQ ⊢
            obtain ⟨w1, hw1⟩ : ∃ w1, wr.drewN nq = w1 := ⟨_, rfl⟩
            rw [hw1]
            have HF1 : Hid (Fr [] w w1) := Lib.hid (by rw [← hw1]; exact HFR.out.drewN nq)
            have HOW1 : Hid (w1.ownsRow w.heap.size 3 1 u k (acc.map (Value.int .i64))) := Lib.hid (by rw [← hw1]; exact own_fr HOW.out ((Fr.refl [] wr).drewN nq))
            have hsz1 := HF1.out.size
            clear ht hw1 g0 g1 g2 g3 y0 y1 y2 y3 j0 j1 j2 j3 HNB HOW HFR
            go_wp2_with (first
              | (at_builtin; refine wpList_append_own _ rfl _ _ 22 rfl w.heap.size 3 i0 (.int .i64 0) 1 8 Try.underlying22 HI.out HZ0.out HZ1.out HZ2.out rfl (by decide) _ _ _ rfl (HOW1.out.alloc _) ⟨w1.heap.size, 0, none⟩ 1 1 [.int .i64 t] rfl rfl (cell_one_new _ _ _) (by simp [Value.oneCell']) (by unfold maxLen; omega) (by omega) (by simp; omega) ?_)
              | fail)
            intro v' w4 hown' hgrow _
            have hfa := (HF1.out.alloc (.cells #[.int .i64 t] 3)).grew (HOW1.out.alloc _) hgrow (Nat.le_refl _)
            have hoa : w4.ownsRow w.heap.size 3 1 v' (k + 1) ((acc ++ [t]).map (Value.int .i64)) := by simpa using hown'
            obtain ⟨a', c', rfl, hr', _⟩ := own_rdI2 hoa (by simp; omega)
            have hls : (acc ++ [t]).length = k + 1 := by simp [hacc]
            have hset := rset_fr w4 a' c' (acc ++ [t]) hr'
            rw [setB_snoc HSA.out (by omega) t, hls] at hset
            rw [hls] at hoa ⊢
            have HFA := Lib.hid hfa; have HOA := Lib.hid hoa
            clear hown' hgrow hfa hoa hr' hls
            by_cases hok : (decide (lastZ 0 acc < t) && decide (t ≤ 2147483647)) = true
            · have HSN : Hid (setB (acc ++ [t]) = true) := Lib.hid (by rw [setB_snoc HSA.out (by omega) t, hok])
              rw [hok] at hset
              have HE2 : Hid (rdS ((cnt : Int) :: r) = rdN (cnt - (k + 1)) (lastZ 0 (acc ++ [t])) (acc ++ [t]) (((cnt : Int) :: r).drop (1 + 4 * (k + 1)))) := Lib.hid (by rw [HEQ.out, hok, lastZ_snoc, show 1 + 4 * (k + 1) = a + 4 by omega]; rfl)
              clear hok HEQ
              go_wp2_with fail
              refine hset.mono ?_
              rintro e w5 ⟨rfl, hf5⟩
              have HF5 := Lib.hid (HFA.out.trans hf5); have HO5 := Lib.hid (own_fr HOA.out hf5)
              clear hf5 HFA HOA hset
              go_wp2_with fail
              go_roundw
              case rel => exact ⟨k + 1, _, acc ++ [t], by omega, by go_num, rfl, HO5.out, by omega, HSN, HF5.out, HE2⟩
              case measure => simp [intOf]; omega
            · have hok' : (decide (lastZ 0 acc < t) && decide (t ≤ 2147483647)) = false := by simpa using hok
              rw [hok'] at hset
              have HE2 : Hid (rdS ((cnt : Int) :: r) = (3, [], [])) := Lib.hid (by rw [HEQ.out, hok']; rfl)
              clear hok hok' HEQ
              go_wp2_with fail
              refine hset.mono ?_
              rintro e w5 ⟨rfl, hf5⟩
              have HF5 := Lib.hid (HFA.out.trans hf5)
              clear hf5 HFA HOA hset
              go_wp2_with fail
              go_ret3
              exact readR_bad rfl HE2.out HF5.out
          · have HB : Hid (rdS ((cnt : Int) :: r) = (4, [], [])) := Lib.hid (by rw [HSS.out, show cnt - k = (cnt - k - 1) + 1 by omega, rdN_short _ _ _ _ (by rw [HLE.out]; omega)])
            have j4 : (n : Int) < (a : Int) + 4 := by omega
            clear HSS
            go_wp2_with fail
            go_ret3
            exact readR_bad rfl HB.out HFR.out
        · obtain rfl : cnt = k := by omega
          obtain ⟨a1, k1, rfl, hr1, hbl⟩ := own_rdI hown (by omega)
          have HBL := Lib.hid hbl
          clear hbl
          have HE : Hid (rdS ((cnt : Int) :: r) = (0, acc, ((cnt : Int) :: r).drop (1 + 4 * cnt))) := Lib.hid (by rw [HSS.out, Nat.sub_self]; rfl)
          have HU : Hid (usedB ((cnt : Int) :: r) = 1 + 4 * (cnt : Int)) := Lib.hid (by
            unfold usedB
            rw [HE.out]
            simp only [beq_self_eq_true, cond_true]
            rw [HN.out, HLE.out]
            omega)
          have HR1 := Lib.hid hr1; have HFR := Lib.hid hfr
          clear hown hr1 hfr HSS hacc
          go_wp2_with fail
          go_ret3
          exact ⟨a1, k1, by first | (rw [HE.out, HU.out]; done) | (rw [HE.out, HU.out]; rfl), by rw [HE.out]; exact HR1.out, by rw [HE.out]; exact HBL.out, HFR.out⟩
end Go.Proofs.Ytdbhppfpalpfmaa
