/-
  cutSet: a set read from the beginning of bytes.
-/
import Derived.Test.YtdbhppfpalpfmaaLabCd2
import Derived.OwnWalk
namespace Go.Proofs.Ytdbhppfpalpfmaa
open Go.RowKit Go.MapKept
def rdN : Nat → Int → List Int → List Int → Int × List Int × List Int
  | 0, _, acc, r => (0, acc, r)
  | n + 1, last, acc, x0 :: x1 :: x2 :: x3 :: r => bif (decide (last < numB x0 x1 x2 x3) && decide (numB x0 x1 x2 x3 ≤ 2147483647)) then rdN n (numB x0 x1 x2 x3) (acc ++ [numB x0 x1 x2 x3]) r else (3, [], [])
  | _ + 1, _, _, _ => (4, [], [])
def rdS : List Int → Int × List Int × List Int
  | [] => (4, [], [])
  | c :: r => bif decide (16 < c) then (3, [], []) else rdN c.toNat 0 [] r
theorem rdN_short (n : Nat) (last : Int) (acc r : List Int) (h : r.length < 4) : rdN (n + 1) last acc r = (4, [], []) := by
  match r, h with
  | [], _ => rfl
  | [_], _ => rfl
  | [_, _], _ => rfl
  | [_, _, _], _ => rfl
theorem four_of (r : List Int) (h : ¬ r.length < 4) : ∃ x0 x1 x2 x3 q, r = x0 :: x1 :: x2 :: x3 :: q := by
  match r, h with
  | [], h => exact absurd (by simp) h
  | [_], h => exact absurd (by simp) h
  | [_, _], h => exact absurd (by simp) h
  | [_, _, _], h => exact absurd (by simp) h
  | x0 :: x1 :: x2 :: x3 :: q, _ => exact ⟨x0, x1, x2, x3, q, rfl⟩
theorem RdB.empty {w : World} (ad : Option Addr) (cap : Nat) (h : cap ≤ 9223372036854775807) : RdB w ad cap [] := ⟨by simp, h, by simp, fun _ => rfl, fun a _ hl => by simp at hl, by simp⟩
theorem own_fr {w W : World} {B n : Nat} {T : TypeId} {v : Value} {xs : List Value} (h : w.ownsRow B T 1 v n xs) (hf : Fr [] w W) : W.ownsRow B T 1 v n xs := by
  refine ⟨h.1, ?_⟩
  rcases h.2 with h1 | ⟨g, cap, cur, h3, h4, h5, h6⟩
  · exact .inl h1
  · exact .inr ⟨g, cap, cur, h3, h4, hf.keep h5 (by simp), h6⟩
theorem RdB.cell_at {w w' : World} {ad : Option Addr} {cap : Nat} {bs : List Int} (_h : RdB w' ad cap bs) {p : Addr} {v : Value} (hc : w.cell? p = some v) (hf : Fr [] w w') : w'.cell? p = some v := by
  rw [World.cell?_of_block (w := w) (hf.block p.block (World.block_lt_of_cell? _ _ hc) (by simp))]
  exact hc
def CutR (w : World) (e : Ending) (w' : World) (R : Int × List Int × List Int) : Prop := ∃ a1 k1 a2 k2, e = .returned (.tuple #[.slice a1 R.2.1.length k1, .slice a2 R.2.2.length k2, .int .i64 R.1]) ∧ RdI w' a1 k1 R.2.1 ∧ RdB w' a2 k2 R.2.2 ∧ Fr [] w w'
theorem cutR_bad {w w' : World} {R : Int × List Int × List Int} {n : Int} (h : R = (n, [], [])) (hf : Fr [] w w') : CutR w (.returned (.tuple #[.slice none 0 0, .slice none 0 0, .int .i64 n])) w' R := by
  subst h
  exact ⟨none, 0, none, 0, rfl, nil_rdI _, RdB.empty _ _ (by omega), hf⟩
set_option maxRecDepth 100000 in
set_option maxHeartbeats 4000000 in
theorem cutSet_calls (w : World) (ad : Option Addr) (cap : Nat) (bs : List Int) (h : RdB w ad cap bs) :
    Calls Try.prog 64 #[.slice ad bs.length cap] w fun e w' => CutR w e w' (rdS bs) := by
  obtain ⟨i0, hi, hz0, hz1, hz2⟩ := info_parts (show (Try.prog.info? 3).map (fun i => (i.zero, i.size, i.bytes)) = some (some (.int .i64 0), 1, 8) by kernel_rfl)
  have HI := Lib.hid hi; have HZ0 := Lib.hid hz0; have HZ1 := Lib.hid hz1; have HZ2 := Lib.hid hz2
  clear hi hz0 hz1 hz2
  cases bs with
  | nil =>
    simp only [List.length_nil]
    clear h
    go_enter Try.func64, Try.ntmps64
    go_wp2
    go_ret3
    exact cutR_bad rfl (Fr.refl _ _)
  | cons x r =>
    obtain ⟨b, off, rfl, hcell, _⟩ := h.cellAt (k := 0) (by simp)
    rw [Nat.add_zero] at hcell
    simp only [List.getD_cons_zero] at hcell
    have hle := h.le
    have hcb := h.cb
    have hbg := h.big
    have hx := h.isB x (by simp)
    simp only [List.length_cons] at hle hbg ⊢
    obtain ⟨c, rfl⟩ : ∃ c, cap = c + 1 := ⟨cap - 1, by omega⟩
    have hrd : Hid (RdB w (some ⟨b, off + 1, none⟩) c r) := Lib.hid (by simpa using h.dropAt (k := 1) (by simp))
    obtain ⟨n, hn⟩ : ∃ n, r.length = n := ⟨_, rfl⟩
    rw [hn] at hle hbg ⊢
    have HN := Lib.hid hn
    clear hn h
    have i0' : (0 : Int) < ((n + 1 : Nat) : Int) := by omega
    by_cases big : 16 < x
    · by_cases c0 : c = 0
      · obtain rfl : n = 0 := by omega
        subst c0
        have HR : Hid (rdS (x :: r) = (3, [], [])) := Lib.hid (by rw [rdS, decide_eq_true big]; rfl)
        have db : decide (16 < x) = true := decide_eq_true big
        go_enter Try.func64, Try.ntmps64
        go_wp2_with fail
        go_quiet (fail)
        have HF := Lib.hid ((Fr.refl [] w).drewN nq)
        go_wp2_with fail
        all_goals
          go_ret3
          exact cutR_bad HR.out HF.out
      · skip
        have HR : Hid (rdS (x :: r) = (3, [], [])) := Lib.hid (by rw [rdS, decide_eq_true big]; rfl)
        have db : decide (16 < x) = true := decide_eq_true big
        go_enter Try.func64, Try.ntmps64
        go_wp2_with fail
        go_quiet (fail)
        have HF := Lib.hid ((Fr.refl [] w).drewN nq)
        go_wp2_with fail
        all_goals
          go_ret3
          exact cutR_bad HR.out HF.out
    · obtain ⟨cnt, rfl⟩ : ∃ cnt : Nat, x = (cnt : Int) := ⟨x.toNat, by omega⟩
      have hc16 : cnt ≤ 16 := by omega
      have HS0 : Hid (rdS ((cnt : Int) :: r) = rdN (cnt - 0) 0 [] r) := Lib.hid (by rw [rdS, decide_eq_false (by omega)]; rfl)
      by_cases c0 : c = 0
      · obtain rfl : n = 0 := by omega
        subst c0
        have er : r = [] := List.eq_nil_of_length_eq_zero HN.out
        have hrd0 : Hid (RdB w (some ⟨b, off, none⟩) 0 r) := Lib.hid (by rw [er]; exact RdB.empty _ _ (by omega))
        go_enter Try.func64, Try.ntmps64
        go_wp2_with fail
        go_quiet (fail)
        have HF := Lib.hid ((Fr.refl [] w).drewN nq)
        go_wp2_with fail
        have HRD0 : Hid (RdB w (some ⟨b, off, none⟩) 0 r) := Lib.hid hrd0.out
        go_loopw [2, 3, 6, 20] (fun v2 v3 v6 v20 wr => ∃ (k : Nat) (u : Value) (a2 : Option Addr) (k2 : Nat) (acc rest : List Int) (last : Int), k ≤ cnt ∧ v20 = .int .i64 k ∧ u = v2 ∧ wr.ownsRow w.heap.size 3 1 u k (acc.map (Value.int .i64)) ∧ v3 = .slice a2 rest.length k2 ∧ v6 = .int .i64 last ∧ Hid (RdB w a2 k2 rest) ∧ Fr [] w wr ∧ Hid (rdS ((cnt : Int) :: r) = rdN (cnt - k) last acc rest)) (fun _ _ _ v20 _ => cnt - (intOf v20).toNat)
        case atStart => exact ⟨0, _, (some ⟨b, off, none⟩), 0, [], r, 0, by omega, rfl, rfl, by simpa using World.ownsRow_nil _ _ _ _, by rw [HN.out], rfl, HRD0, HF.out, HS0⟩
        case round =>
          obtain ⟨k, u, a2, k2, acc, rest, last, hk, rfl, rfl, hown, rfl, rfl, HRW, hfr, HSS⟩ := hrel
          have HRD := Lib.hid (HRW.out.keep hfr)
          have hsz := hfr.size
          have hacc : acc.length = k := by have := hown.1; simp at this; omega
          by_cases hlt : k < cnt
          · by_cases h4 : rest.length < 4
            · have HB : Hid (rdS ((cnt : Int) :: r) = (4, [], [])) := Lib.hid (by rw [HSS.out, show cnt - k = (cnt - k - 1) + 1 by omega, rdN_short _ _ _ _ h4])
              have HFR := Lib.hid hfr
              obtain ⟨m, hm⟩ : ∃ m, rest.length = m := ⟨_, rfl⟩
              rw [hm] at h4 ⊢
              clear hm hown hfr HSS HRD HRW hacc
              go_wp2_with fail
              go_ret3
              exact cutR_bad HB.out HFR.out
            · obtain ⟨x0, x1, x2, x3, q, rfl⟩ := four_of rest h4
              obtain ⟨b4, o4, rfl, _, hall⟩ := HRD.out.cellAt (k := 0) (by simp)
              have g0 := hall 0 (by simp); have g1 := hall 1 (by simp); have g2 := hall 2 (by simp); have g3 := hall 3 (by simp)
              simp only [Nat.add_zero, List.getD_cons_zero, List.getD_cons_succ] at g0 g1 g2 g3
              have y0 := HRD.out.isB x0 (by simp); have y1 := HRD.out.isB x1 (by simp); have y2 := HRD.out.isB x2 (by simp); have y3 := HRD.out.isB x3 (by simp)
              have hle4 := HRD.out.le; have hcb4 := HRD.out.cb; have hbg4 := HRD.out.big
              obtain ⟨m, hm⟩ : ∃ m, q.length = m := ⟨_, rfl⟩
              have hlen : (x0 :: x1 :: x2 :: x3 :: q).length = m + 4 := by simp [hm]
              rw [hlen] at hle4 hbg4 ⊢
              obtain ⟨c4, rfl⟩ : ∃ c4, k2 = c4 + 4 := ⟨k2 - 4, by omega⟩
              have hdr : Hid (RdB w (some ⟨b4, o4 + 4, none⟩) c4 q) := Lib.hid (by simpa using HRW.out.dropAt (k := 4) (by simp))
              have HNUM := Lib.hid (fun w' (hf : Fr [] wr w') => number_calls w' b4 o4 (c4 + 4) (m + 4) x0 x1 x2 x3 (by omega) (by have := HRD.out.keep hf; exact (this.cell_at g0 hf)) (by have := HRD.out.keep hf; exact (this.cell_at g1 hf)) (by have := HRD.out.keep hf; exact (this.cell_at g2 hf)) (by have := HRD.out.keep hf; exact (this.cell_at g3 hf)) y0 y1 y2 y3)
              have HM := Lib.hid hm
              have HEQ : Hid (rdS ((cnt : Int) :: r) = bif (decide (last < numB x0 x1 x2 x3) && decide (numB x0 x1 x2 x3 ≤ 2147483647)) then rdN (cnt - (k + 1)) (numB x0 x1 x2 x3) (acc ++ [numB x0 x1 x2 x3]) q else (3, [], [])) := Lib.hid (by rw [HSS.out, show cnt - k = (cnt - (k + 1)) + 1 by omega]; rfl)
              obtain ⟨t, ht⟩ : ∃ t, numB x0 x1 x2 x3 = t := ⟨_, rfl⟩
              rw [ht] at HNUM HEQ
              have HOW := Lib.hid hown; have HFR := Lib.hid hfr
              clear hall g0 g1 g2 g3 y0 y1 y2 y3 hm hlen ht hown hfr HRD HRW HSS h4
              go_wp2_with fail
              refine (HNUM.out _ (Fr.refl _ _)).mono ?_
              rintro e w1 ⟨rfl, hf1⟩
              have HF1 := Lib.hid hf1
              clear hf1 HNUM
              have hfo := follows_calls w1 last t
              by_cases hok : (decide (last < t) && decide (t ≤ 2147483647)) = true
              · rw [hok] at hfo
                have HE2 : Hid (rdS ((cnt : Int) :: r) = rdN (cnt - (k + 1)) t (acc ++ [t]) q) := Lib.hid (by rw [HEQ.out, hok]; rfl)
                clear hok HEQ
                go_wp2_with fail
                refine hfo.mono ?_
                rintro e w2 ⟨rfl, rfl⟩
                have hw1 := (HFR.out.trans HF1.out).size
                have HOW1 := Lib.hid (own_fr HOW.out HF1.out)
                go_wp2_with (first
                  | (at_builtin; refine wpList_append_own _ rfl _ _ 22 rfl w.heap.size 3 i0 (.int .i64 0) 1 8 Try.underlying22 HI.out HZ0.out HZ1.out HZ2.out rfl (by decide) _ _ _ rfl (HOW1.out.alloc _) ⟨w1.heap.size, 0, none⟩ 1 1 [.int .i64 t] rfl rfl (cell_one_new _ _ _) (by simp [Value.oneCell']) (by unfold maxLen; omega) (by omega) (by simp; omega) ?_)
                  | fail)
                intro v' w4 hown' hgrow _
                have HFA := Lib.hid (((HFR.out.trans HF1.out).alloc (.cells #[.int .i64 t] 3)).grew (HOW1.out.alloc _) hgrow (Nat.le_refl _))
                have HOA := Lib.hid hown'
                clear hown' hgrow
                by_cases c40 : c4 = 0
                · subst c40
                  obtain rfl : m = 0 := by omega
                  have eq : q = [] := List.eq_nil_of_length_eq_zero HM.out
                  go_wp2_with fail
                  go_quiet (fail)
                  have HZ := Lib.hid (HFA.out.drewN nq)
                  have HOZ := Lib.hid (own_fr HOA.out ((Fr.refl [] w4).drewN nq))
                  have HRZ : Hid (RdB w (some ⟨b4, o4, none⟩) 0 q) := Lib.hid (by rw [eq]; exact RdB.empty _ _ (by omega))
                  clear HOA HFA
                  go_wp2_with fail
                  go_roundw
                  case rel => exact ⟨k + 1, _, (some ⟨b4, o4, none⟩), 0, acc ++ [t], q, t, by omega, by go_num, rfl, by simpa using HOZ.out, by rw [HM.out], rfl, HRZ, HZ.out, HE2⟩
                  case measure => simp [intOf]; omega
                · go_wp2_with fail
                  go_quiet (fail)
                  have HZ := Lib.hid (HFA.out.drewN nq)
                  have HOZ := Lib.hid (own_fr HOA.out ((Fr.refl [] w4).drewN nq))
                  have HRZ : Hid (RdB w (some ⟨b4, o4 + 4, none⟩) c4 q) := Lib.hid (hdr.out)
                  clear HOA HFA
                  go_wp2_with fail
                  go_roundw
                  case rel => exact ⟨k + 1, _, (some ⟨b4, o4 + 4, none⟩), c4, acc ++ [t], q, t, by omega, by go_num, rfl, by simpa using HOZ.out, by rw [HM.out], rfl, HRZ, HZ.out, HE2⟩
                  case measure => simp [intOf]; omega
              · have hok' : (decide (last < t) && decide (t ≤ 2147483647)) = false := by simpa using hok
                rw [hok'] at hfo
                have HE2 : Hid (rdS ((cnt : Int) :: r) = (3, [], [])) := Lib.hid (by rw [HEQ.out, hok']; rfl)
                clear hok hok' HEQ
                go_wp2_with fail
                refine hfo.mono ?_
                rintro e w2 ⟨rfl, rfl⟩
                have HFZ := Lib.hid (HFR.out.trans HF1.out)
                go_wp2_with fail
                go_ret3
                exact cutR_bad HE2.out HFZ.out
          · obtain rfl : cnt = k := by omega
            obtain ⟨a1, k1, rfl, hr1, _⟩ := own_rdI2 hown (by omega)
            have HE : Hid (rdS ((cnt : Int) :: r) = (0, acc, rest)) := Lib.hid (by rw [HSS.out, Nat.sub_self]; rfl)
            have HR1 := Lib.hid hr1; have HFR := Lib.hid hfr
            clear hown hr1 hfr HSS hacc
            go_wp2_with fail
            go_ret3
            exact ⟨a1, k1, a2, k2, by first | (rw [HE.out]; done) | (rw [HE.out]; rfl), by rw [HE.out]; exact HR1.out, by rw [HE.out]; exact HRD.out, HFR.out⟩
      · skip
        go_enter Try.func64, Try.ntmps64
        go_wp2_with fail
        go_quiet (fail)
        have HF := Lib.hid ((Fr.refl [] w).drewN nq)
        go_wp2_with fail
        have HRD0 : Hid (RdB w (some ⟨b, off + 1, none⟩) c r) := Lib.hid hrd.out
        go_loopw [2, 3, 6, 20] (fun v2 v3 v6 v20 wr => ∃ (k : Nat) (u : Value) (a2 : Option Addr) (k2 : Nat) (acc rest : List Int) (last : Int), k ≤ cnt ∧ v20 = .int .i64 k ∧ u = v2 ∧ wr.ownsRow w.heap.size 3 1 u k (acc.map (Value.int .i64)) ∧ v3 = .slice a2 rest.length k2 ∧ v6 = .int .i64 last ∧ Hid (RdB w a2 k2 rest) ∧ Fr [] w wr ∧ Hid (rdS ((cnt : Int) :: r) = rdN (cnt - k) last acc rest)) (fun _ _ _ v20 _ => cnt - (intOf v20).toNat)
        case atStart => exact ⟨0, _, (some ⟨b, off + 1, none⟩), c, [], r, 0, by omega, rfl, rfl, by simpa using World.ownsRow_nil _ _ _ _, by rw [HN.out], rfl, HRD0, HF.out, HS0⟩
        case round =>
          obtain ⟨k, u, a2, k2, acc, rest, last, hk, rfl, rfl, hown, rfl, rfl, HRW, hfr, HSS⟩ := hrel
          have HRD := Lib.hid (HRW.out.keep hfr)
          have hsz := hfr.size
          have hacc : acc.length = k := by have := hown.1; simp at this; omega
          by_cases hlt : k < cnt
          · by_cases h4 : rest.length < 4
            · have HB : Hid (rdS ((cnt : Int) :: r) = (4, [], [])) := Lib.hid (by rw [HSS.out, show cnt - k = (cnt - k - 1) + 1 by omega, rdN_short _ _ _ _ h4])
              have HFR := Lib.hid hfr
              obtain ⟨m, hm⟩ : ∃ m, rest.length = m := ⟨_, rfl⟩
              rw [hm] at h4 ⊢
              clear hm hown hfr HSS HRD HRW hacc
              go_wp2_with fail
              go_ret3
              exact cutR_bad HB.out HFR.out
            · obtain ⟨x0, x1, x2, x3, q, rfl⟩ := four_of rest h4
              obtain ⟨b4, o4, rfl, _, hall⟩ := HRD.out.cellAt (k := 0) (by simp)
              have g0 := hall 0 (by simp); have g1 := hall 1 (by simp); have g2 := hall 2 (by simp); have g3 := hall 3 (by simp)
              simp only [Nat.add_zero, List.getD_cons_zero, List.getD_cons_succ] at g0 g1 g2 g3
              have y0 := HRD.out.isB x0 (by simp); have y1 := HRD.out.isB x1 (by simp); have y2 := HRD.out.isB x2 (by simp); have y3 := HRD.out.isB x3 (by simp)
              have hle4 := HRD.out.le; have hcb4 := HRD.out.cb; have hbg4 := HRD.out.big
              obtain ⟨m, hm⟩ : ∃ m, q.length = m := ⟨_, rfl⟩
              have hlen : (x0 :: x1 :: x2 :: x3 :: q).length = m + 4 := by simp [hm]
              rw [hlen] at hle4 hbg4 ⊢
              obtain ⟨c4, rfl⟩ : ∃ c4, k2 = c4 + 4 := ⟨k2 - 4, by omega⟩
              have hdr : Hid (RdB w (some ⟨b4, o4 + 4, none⟩) c4 q) := Lib.hid (by simpa using HRW.out.dropAt (k := 4) (by simp))
              have HNUM := Lib.hid (fun w' (hf : Fr [] wr w') => number_calls w' b4 o4 (c4 + 4) (m + 4) x0 x1 x2 x3 (by omega) (by have := HRD.out.keep hf; exact (this.cell_at g0 hf)) (by have := HRD.out.keep hf; exact (this.cell_at g1 hf)) (by have := HRD.out.keep hf; exact (this.cell_at g2 hf)) (by have := HRD.out.keep hf; exact (this.cell_at g3 hf)) y0 y1 y2 y3)
              have HM := Lib.hid hm
              have HEQ : Hid (rdS ((cnt : Int) :: r) = bif (decide (last < numB x0 x1 x2 x3) && decide (numB x0 x1 x2 x3 ≤ 2147483647)) then rdN (cnt - (k + 1)) (numB x0 x1 x2 x3) (acc ++ [numB x0 x1 x2 x3]) q else (3, [], [])) := Lib.hid (by rw [HSS.out, show cnt - k = (cnt - (k + 1)) + 1 by omega]; rfl)
              obtain ⟨t, ht⟩ : ∃ t, numB x0 x1 x2 x3 = t := ⟨_, rfl⟩
              rw [ht] at HNUM HEQ
              have HOW := Lib.hid hown; have HFR := Lib.hid hfr
              clear hall g0 g1 g2 g3 y0 y1 y2 y3 hm hlen ht hown hfr HRD HRW HSS h4
              go_wp2_with fail
              refine (HNUM.out _ (Fr.refl _ _)).mono ?_
              rintro e w1 ⟨rfl, hf1⟩
              have HF1 := Lib.hid hf1
              clear hf1 HNUM
              have hfo := follows_calls w1 last t
              by_cases hok : (decide (last < t) && decide (t ≤ 2147483647)) = true
              · rw [hok] at hfo
                have HE2 : Hid (rdS ((cnt : Int) :: r) = rdN (cnt - (k + 1)) t (acc ++ [t]) q) := Lib.hid (by rw [HEQ.out, hok]; rfl)
                clear hok HEQ
                go_wp2_with fail
                refine hfo.mono ?_
                rintro e w2 ⟨rfl, rfl⟩
                have hw1 := (HFR.out.trans HF1.out).size
                have HOW1 := Lib.hid (own_fr HOW.out HF1.out)
                go_wp2_with (first
                  | (at_builtin; refine wpList_append_own _ rfl _ _ 22 rfl w.heap.size 3 i0 (.int .i64 0) 1 8 Try.underlying22 HI.out HZ0.out HZ1.out HZ2.out rfl (by decide) _ _ _ rfl (HOW1.out.alloc _) ⟨w1.heap.size, 0, none⟩ 1 1 [.int .i64 t] rfl rfl (cell_one_new _ _ _) (by simp [Value.oneCell']) (by unfold maxLen; omega) (by omega) (by simp; omega) ?_)
                  | fail)
                intro v' w4 hown' hgrow _
                have HFA := Lib.hid (((HFR.out.trans HF1.out).alloc (.cells #[.int .i64 t] 3)).grew (HOW1.out.alloc _) hgrow (Nat.le_refl _))
                have HOA := Lib.hid hown'
                clear hown' hgrow
                by_cases c40 : c4 = 0
                · subst c40
                  obtain rfl : m = 0 := by omega
                  have eq : q = [] := List.eq_nil_of_length_eq_zero HM.out
                  go_wp2_with fail
                  go_quiet (fail)
                  have HZ := Lib.hid (HFA.out.drewN nq)
                  have HOZ := Lib.hid (own_fr HOA.out ((Fr.refl [] w4).drewN nq))
                  have HRZ : Hid (RdB w (some ⟨b4, o4, none⟩) 0 q) := Lib.hid (by rw [eq]; exact RdB.empty _ _ (by omega))
                  clear HOA HFA
                  go_wp2_with fail
                  go_roundw
                  case rel => exact ⟨k + 1, _, (some ⟨b4, o4, none⟩), 0, acc ++ [t], q, t, by omega, by go_num, rfl, by simpa using HOZ.out, by rw [HM.out], rfl, HRZ, HZ.out, HE2⟩
                  case measure => simp [intOf]; omega
                · go_wp2_with fail
                  go_quiet (fail)
                  have HZ := Lib.hid (HFA.out.drewN nq)
                  have HOZ := Lib.hid (own_fr HOA.out ((Fr.refl [] w4).drewN nq))
                  have HRZ : Hid (RdB w (some ⟨b4, o4 + 4, none⟩) c4 q) := Lib.hid (hdr.out)
                  clear HOA HFA
                  go_wp2_with fail
                  go_roundw
                  case rel => exact ⟨k + 1, _, (some ⟨b4, o4 + 4, none⟩), c4, acc ++ [t], q, t, by omega, by go_num, rfl, by simpa using HOZ.out, by rw [HM.out], rfl, HRZ, HZ.out, HE2⟩
                  case measure => simp [intOf]; omega
              · have hok' : (decide (last < t) && decide (t ≤ 2147483647)) = false := by simpa using hok
                rw [hok'] at hfo
                have HE2 : Hid (rdS ((cnt : Int) :: r) = (3, [], [])) := Lib.hid (by rw [HEQ.out, hok']; rfl)
                clear hok hok' HEQ
                go_wp2_with fail
                refine hfo.mono ?_
                rintro e w2 ⟨rfl, rfl⟩
                have HFZ := Lib.hid (HFR.out.trans HF1.out)
                go_wp2_with fail
                go_ret3
                exact cutR_bad HE2.out HFZ.out
          · obtain rfl : cnt = k := by omega
            obtain ⟨a1, k1, rfl, hr1, _⟩ := own_rdI2 hown (by omega)
            have HE : Hid (rdS ((cnt : Int) :: r) = (0, acc, rest)) := Lib.hid (by rw [HSS.out, Nat.sub_self]; rfl)
            have HR1 := Lib.hid hr1; have HFR := Lib.hid hfr
            clear hown hr1 hfr HSS hacc
            go_wp2_with fail
            go_ret3
            exact ⟨a1, k1, a2, k2, by first | (rw [HE.out]; done) | (rw [HE.out]; rfl), by rw [HE.out]; exact HR1.out, by rw [HE.out]; exact HRD.out, HFR.out⟩
end Go.Proofs.Ytdbhppfpalpfmaa
