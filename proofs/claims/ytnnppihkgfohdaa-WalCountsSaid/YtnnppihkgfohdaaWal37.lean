/-
  wal: WalCounts.
-/
import Derived.Test.YtnnppihkgfohdaaWal36
import Derived.Test.YtnnppihkgfohdaaWalRow2
namespace Go.Proofs.Ytnnppihkgfohdaa
open Go.RowKit Go.MapKept
/-- Where the walk stands between two Commits: the device bears the state of the Commit that is known to be lasting. -/
structure CntAt (w : World) (s p l m i : Nat) (wr : World) : Prop where
  ex : ∃ (bs : List Nat) (S : Sv) (b : Int) (q : Nat), StAt wr bs s p l m 340 340 b S ∧ Fit S ∧ S.all = i ∧ S.last = q ∧ q ≤ i ∧ S.U = (fun _ => none) ∧ S.tell 0 = wantN i ∧ S.v.ls 300 = wantN q ∧ b ≤ 1 + 1480 * (i : Int) ∧ ∀ x ∈ bs, w.heap.size ≤ x ∧ x < wr.heap.size
  fr : Fr [] w wr
theorem done_of {S : Sv} (h : Fit S) (hU : S.U = fun _ => none) : (overL S.Cs 0).getD (S.v.ls 300) = S.tell 0 := by
  unfold Sv.tell
  rw [h.text, hU]
  rfl
/-- One sector written, one Commit. -/
theorem cnt_commit {S S1 : Sv} (h : Fit S) (hU : S.U = fun _ => none) {i q : Nat} (hall : S.all = i) (hlast : S.last = q) (hq : q ≤ i) (ht : S.tell 0 = wantN i) (hls : S.v.ls 300 = wantN q) (hk : 0 < (S.put 0 (wantN (i + 1))).k) (h1 : S1 = S.put 0 (wantN (i + 1)) ∨ Settled (S.put 0 (wantN (i + 1))) S1) :
    ∃ q' : Nat, S1.push.last = q' ∧ q' ≤ i + 1 ∧ S1.push.v.ls 300 = wantN q' := by
  rcases h1 with rfl | ⟨v', hv, rfl⟩
  · refine ⟨q, ?_, by omega, ?_⟩
    · unfold Sv.push; rw [if_pos hk]; exact hlast
    · unfold Sv.push; rw [if_pos hk]; exact hls
  · refine ⟨i, ?_, by omega, ?_⟩
    · unfold Sv.push; rw [if_pos (by exact hk)]; exact hall
    · unfold Sv.push; rw [if_pos (by exact hk)]
      have := hv.home 0
      rw [← ht, ← done_of h hU]
      exact this
theorem cnt_sync {S S1 : Sv} (h : Fit S) (hU : S.U = fun _ => none) {i : Nat} (hall : S.all = i) (ht : S.tell 0 = wantN i) (h1 : Settled S S1) : S1.last = i ∧ S1.v.ls 300 = wantN i := by
  obtain ⟨v', hv, rfl⟩ := h1
  refine ⟨hall, ?_⟩
  have := hv.home 0
  rw [← ht, ← done_of h hU]
  exact this
set_option maxRecDepth 100000 in
set_option maxHeartbeats 16000000 in
theorem counts_calls (w : World) (n : Int) (ad : Option Addr) (len cap : Nat) (hz : RdT w ad len) (hlm : len ≤ 9223372036854775807) :
    Calls Try.prog 3 #[.int .i64 n, .slice ad len cap] w fun e w' => e = .returned (.bool true) ∧ Fr [] w w' := by
  have HO := Lib.hid (lopen_calls w 340 (by omega) (by omega))
  have HZ := Lib.hid hz
  obtain ⟨N, hN, hNe⟩ : ∃ N : Nat, N < 32 ∧ bits .and .i64 n 31 = (N : Int) := ⟨(n % 32).toNat, by omega, by rw [mask31]; omega⟩
  obtain ⟨i0, hi, hz0, hz1, hz2⟩ := info_parts Try.info5
  have HZ1 := Lib.hid hz1; have HI0 := Lib.hid hi; have HZ0 := Lib.hid hz0
  have HB64 : Hid (i0.bytes * 64 ≤ 281474976710656) := Lib.hid (by rw [hz2]; omega)
  clear hz0 hz1 hz2 hi hz
  go_enter Try.func3, Try.ntmps3
  go_wp2_with fail
  refine HO.out.mono ?_
  rintro e w1 ⟨p, l, m, s, bs, c, rfl, hf1, hbs, hst⟩
  have hc0 : CntAt w s p l m 0 w1 := ⟨⟨bs, _, 1, 0, hst, fit0 c, rfl, rfl, by omega, rfl, by rw [(fit0 c).tell_ls rfl rfl]; rfl, rfl, by omega, hbs⟩, hf1⟩
  have HC0 := Lib.hid hc0
  clear hc0 hst hf1 hbs HO
  go_wp2_with fail
  go_loopw [7] (fun v7 wr => ∃ i : Nat, i ≤ N ∧ v7 = .int .i64 i ∧ CntAt w s p l m i wr) (fun v7 _ => N - (intOf v7).toNat)
  case atStart => exact ⟨0, by omega, rfl, HC0.out⟩
  case round =>
    clear HC0
    rename World => wr
    obtain ⟨i, hi, rfl, hca⟩ := hrel
    obtain ⟨⟨bs, S, b, q, hst, hfit, hall, hlast, hq, hund, htl, hls, hb, hbs⟩, hfr⟩ := hca
    have hw1 : IntKind.i64.wrap ((i : Int) + 1) = (i : Int) + 1 := IntWalk.i64_in _ (by omega)
    by_cases hlt : i < N
    · have hl1 : (i : Int) < (N : Int) := by omega
      have hl0 : (0 : Int) ≤ (i : Int) := by omega
      have HSEC := Lib.hid (secW (k := i + 1) (z := (i : Int) + 1) (by omega) (by omega) (by omega))
      have hk0 : S.k = 0 := by
        have := hst.card
        rw [hund] at this
        exact (Card.one Card.empty this).symm
      have HS := Lib.hid hst; have HBS := Lib.hid hbs; have HFR := Lib.hid hfr; have HFIT := Lib.hid hfit; have HTL := Lib.hid htl; have HALL := Lib.hid hall; have HUN := Lib.hid hund; have HLA := Lib.hid hlast; have HLS := Lib.hid hls
      clear hst hbs hfr hfit htl hall hund hlast hls
      go_wp2_with fail
      refine (HSEC.out _).mono ?_
      rintro e w2 ⟨g, cap2, rfl, hf2, hg1, hg2, hr2⟩
      have hW := st_write (HS.out.keep hf2 (by simp)) HFIT.out.gone HFIT.out.live.d 0 (by omega) g 0 cap2 _ (wantN_length (i + 1)) hr2 (fun hx => by have := (HBS.out _ hx).2; omega) (.inr (by omega))
      have HW := Lib.hid hW; have HF2 := Lib.hid hf2
      clear hW hr2 hf2
      go_wp2_with fail
      refine HW.out.mono ?_
      rintro e w3 ⟨rfl, hf3, hst3⟩
      have hst3' : StAt w3 bs s p l m 340 340 b (S.put 0 (wantN (i + 1))) := hst3
      have hkp : 0 < (S.put 0 (wantN (i + 1))).k := by
        show 0 < (if (S.U ((0 : Nat) : Int)).isSome then S.k else S.k + 1)
        rw [HUN.out]
        simp
      have HC := Lib.hid (fit_commit hst3' (HFIT.out.put 0 _) (by show S.all < _; rw [HALL.out]; omega) (by omega))
      have HCD := Lib.hid hst3'.card
      have hsz2 := HF2.out.size
      have HF3 := Lib.hid ((HFR.out.trans HF2.out).trans_new hf3 (fun x hx => .inr (HBS.out x hx).1))
      have HKP := Lib.hid hkp
      clear hst3 hst3' hf3 hkp HW HS
      go_wp2_with fail
      refine HC.out.mono ?_
      rintro e w4 ⟨bs4, S1, rfl, hf4, hg4, hs1, hst4⟩
      have hco := committed (HFIT.out.put 0 _) HCD.out hs1
      obtain ⟨q4, hq41, hq42, hq43⟩ := cnt_commit HFIT.out HUN.out HALL.out HLA.out hq HTL.out HLS.out HKP.out hs1
      have ht4 : S1.push.tell 0 = wantN (i + 1) := by rw [hco.tell, Fit.put_tell]; simp
      have ha4 : S1.push.all = ((i + 1 : Nat) : Int) := by rw [hco.all]; show S.all + 1 = _; rw [HALL.out]; omega
      obtain ⟨S4, hS4⟩ : ∃ S4, S1.push = S4 := ⟨_, rfl⟩
      rw [hS4] at hst4 hco hq41 hq43 ht4 ha4
      have hu4 := hco.und
      have hf4' := hco.fit
      have hsz3 := HF3.out.size
      have hbs4 : ∀ x ∈ bs4, w.heap.size ≤ x := fun x hx => by
        rcases hg4 x hx with h | h
        · exact (HBS.out x h).1
        · omega
      have hF4 : Fr [] w w4 := HF3.out.trans_new hf4 (fun x hx => .inr (HBS.out x hx).1)
      have HN : Hid (CntAt w s p l m (i + 1) w4) := Lib.hid (by
        obtain ⟨bs5, htr, hst5⟩ := hst4.trim
        exact ⟨⟨bs5, S4, _, q4, hst5, hf4', ha4, hq41, hq42, hu4, ht4, hq43, by omega, fun x hx => ⟨hbs4 x (htr x hx).1, (htr x hx).2⟩⟩, hF4⟩)
      have HY := Lib.hid (fit_sync hst4 hf4' (by omega))
      have HQ : Hid (∀ S5, Settled S4 S5 → S5.last = ((i + 1 : Nat) : Int) ∧ S5.v.ls 300 = wantN (i + 1)) := Lib.hid (fun S5 h5 => cnt_sync hf4' hu4 ha4 ht4 h5)
      have HF4 := Lib.hid hF4; have HB4 := Lib.hid hbs4; have HFT4 := Lib.hid hf4'; have HU4 := Lib.hid hu4; have HT4 := Lib.hid ht4; have HA4 := Lib.hid ha4
      clear hS4 hst4 hco hq41 hq42 hq43 ht4 ha4 hu4 hf4' hbs4 hF4 hf4 hg4 hs1 HC HCD HBS HFR HFIT HTL HALL HUN HLA HLS HKP
      by_cases hlen : i < len
      · have hl2 : (i : Int) < (len : Int) := by omega
        obtain ⟨b0, off, rfl, hcz⟩ : ∃ b0 off, ad = some ⟨b0, off, none⟩ ∧ ∀ j, j < len → ∃ x, w4.cell? ⟨b0, off + j, none⟩ = some (.bool x) := by
          have hr := HZ.out.keep HF4.out
          cases had : ad with
          | none => have := hr.nil had; omega
          | some a =>
            obtain ⟨b0, off, rfl, hc⟩ := hr.at_ a had (by omega)
            exact ⟨b0, off, rfl, hc⟩
        obtain ⟨x, hx⟩ := hcz i hlen
        clear hcz
        cases x with
        | false =>
          go_wp2_with fail
          go_roundw
          case rel => exact ⟨i + 1, by omega, by go_num, HN.out⟩
          case measure => simp [intOf]; omega
        | true =>
          go_wp2_with fail
          refine HY.out.mono ?_
          rintro e w5 ⟨bs5, S5, rfl, hf5, hg5, hs5, hst5⟩
          have hla := lasting HFT4.out hs5
          obtain ⟨hl5, hd5⟩ := HQ.out S5 hs5
          have hsz4 := HF4.out.size
          have HN2 : Hid (CntAt w s p l m (i + 1) w5) := Lib.hid (by
            obtain ⟨bs6, htr, hst6⟩ := hst5.trim
            refine ⟨⟨bs6, S5, _, i + 1, hst6, hla.fit, by rw [hla.all]; exact HA4.out, hl5, by omega, by rw [hla.und]; exact HU4.out, (hla.tell 0).trans HT4.out, hd5, by omega, fun x hx => ⟨?_, (htr x hx).2⟩⟩, HF4.out.trans_new hf5 (fun x hx => .inr (HB4.out x hx))⟩
            rcases hg5 x (htr x hx).1 with h | h
            · exact HB4.out x h
            · omega)
          clear hla hl5 hd5 hf5 hg5 hs5 hst5 HY HQ
          go_wp2_with fail
          go_roundw
          case rel => exact ⟨i + 1, by omega, by go_num, HN2.out⟩
          case measure => simp [intOf]; omega
      · have hl2 : ¬ ((i : Int) < (len : Int)) := by omega
        go_wp2_with fail
        go_roundw
        case rel => exact ⟨i + 1, by omega, by go_num, HN.out⟩
        case measure => simp [intOf]; omega
    · obtain rfl : i = N := by omega
      have HCM := Lib.hid (st_commits hst)
      rw [hall, hlast] at HCM
      obtain ⟨u3, wv3, ms3, B3, hl3⟩ := hst.lies
      have hpl : w.heap.size ≤ p ∧ w.heap.size ≤ l ∧ w.heap.size ≤ m := ⟨(hbs _ hl3.bs4.2.1).1, (hbs _ hl3.bs4.2.2.1).1, (hbs _ hl3.bs4.2.2.2.1).1⟩
      have hql : (q : Int) ≤ (i : Int) := by omega
      have hq0 : ¬ ((q : Int) < 0) := by omega
      have hqg : ¬ ((i : Int) < (q : Int)) := by omega
      have HD := Lib.hid hst.dev; have HFR := Lib.hid hfr; have HFIT := Lib.hid hfit; have HLS := Lib.hid hls
      clear hst hbs hfr hfit htl hall hund hlast hls hl3
      go_wp2_with fail
      refine HCM.out.mono ?_
      rintro e w2 ⟨rfl, hf2⟩
      have HCR := Lib.hid (dcrash_none w2 p l m 340 340 b S.v (HD.out.keep hf2 (by simp) (by simp) (by simp)))
      have HF2 := Lib.hid (HFR.out.trans hf2)
      clear hf2 HCM
      go_wp2_with fail
      refine HCR.out.mono ?_
      rintro e w3 ⟨m', rfl, hf3, hm', hd3⟩
      have hop := st_open w3 p l m' 340 340 _ _ hd3 (by omega) (by omega) ⟨rfl, rfl, HFIT.out.head⟩
      have hsz2 := HF2.out.size
      have HOP := Lib.hid hop
      have HF3 := Lib.hid (HF2.out.trans_new hf3 (fun x hx => by simp at hx; omega))
      clear hop hf3 hd3 HCR
      go_wp2_with fail
      refine HOP.out.mono ?_
      rintro e w4 ⟨t, bs4, rfl, hf4, ht4, hbs4, hst4⟩
      have hsz3 := HF3.out.size
      have hrd := st_read hst4 rfl rfl 0 (by omega) (by omega)
      have ht5 : (Sv.new (Dv.read ⟨S.v.c, -1, false, S.v.ls, fun _ => none⟩ 0).2).tell 0 = wantN q := by
        rw [← HLS.out]
        exact Fit.tell_ls (S := Sv.new (Dv.read ⟨S.v.c, -1, false, S.v.ls, fun _ => none⟩ 0).2) (Fit.new ⟨rfl, by show (-1 : Int) < 0; omega⟩ rfl HFIT.out.head) rfl rfl 0
      rw [ht5] at hrd
      have HRD := Lib.hid hrd
      have HF4 := Lib.hid (HF3.out.trans_new hf4 (fun x hx => by simp at hx; omega))
      have HB4 : Hid (∀ x ∈ bs4, w.heap.size ≤ x) := Lib.hid (fun x hx => by have := hbs4 x hx; omega)
      clear hrd hst4 hf4 hbs4 ht5 HOP
      go_wp2_with fail
      refine HRD.out.mono ?_
      rintro e w5 ⟨x, c5, rfl, hf5, _, hx⟩
      obtain ⟨g5, cap5, rfl, hs5⟩ := StrB.b64 (wantN_length _) hx
      have HF5 := Lib.hid (HF4.out.trans_new hf5 (fun x hx => .inr (HB4.out x hx)))
      have HS5 := Lib.hid hs5
      clear hf5 hx hs5 HRD
      have hfz : Fr [] w5 (w5.alloc (.cells (cel zeros).toArray 5)) := (Fr.refl [] w5).alloc _
      have HFZ := Lib.hid hfz
      clear hfz
      go_wp2_with fail
      go_loopw [14] (fun v14 wr => v14 = .int .i64 q ∧ wr = w5) (fun _ _ => 0)
      case atStart => exact ⟨rfl, rfl⟩
      case round =>
        obtain ⟨rfl, hwr⟩ := hrel
        rw [hwr]
        clear hwr
        by_cases hq1 : 0 < q
        · have hq2 : (0 : Int) < (q : Int) := by omega
          have HSEC := Lib.hid (secW (k := q) rfl hq1 (by omega))
          go_wp2_with (first
            | (refine wL_make (o := ⟨some 96, .makeSlice _ _ _, _, _, _, _⟩) rfl _ _ 29 rfl 5 i0 (.int .u8 0) Try.underlying29 HI0.out HZ0.out 64 rfl rfl HB64.out (by omega) ?_; rw [HZ1.out, Nat.mul_one, show madeCells (Value.int .u8 0).cells 64 = (cel zeros).toArray from made_zeros2])
            | fail)
          refine (HSEC.out _).mono ?_
          rintro e w6 ⟨g6, cap6, rfl, hf6, _, _, hr6⟩
          have hx5 := HS5.out w6 (HFZ.out.trans hf6)
          have hx6 := StrB.range (cap := cap6) (wantN_length _) hr6 w6 (Fr.refl [] w6)
          have hsame := beq_selfB ⟨(wantN q).toArray⟩
          have HZZ := Lib.hid (HF5.out.trans (HFZ.out.trans hf6))
          clear hf6 hr6
          generalize wantN q = T at *
          go_wp2_with fail
          refine (awake_calls _).mono ?_
          rintro e w7 ⟨rfl, hf7⟩
          have HZ7 := Lib.hid (HZZ.out.trans hf7)
          clear hf7
          go_wp2_with fail
          go_ret
          exact ⟨rfl, HZ7.out⟩
        · have hq2 : ¬ ((0 : Int) < (q : Int)) := by omega
          have hx5 := HS5.out _ HFZ.out
          have hx6 := StrB.range (s := zeros) (n := 64) (cap := 64) rfl (rangeAt_new w5 (cel zeros) 5 w5.heap.size rfl) _ (Fr.refl [] _)
          have hwz : wantN q = zeros := by unfold wantN; rw [if_neg hq1]
          rw [hwz] at hx5
          have hsame := beq_selfB ⟨zeros.toArray⟩
          have HZZ := Lib.hid (HF5.out.trans HFZ.out)
          clear hwz
          go_wp2_with (first
            | (refine wL_make (o := ⟨some 96, .makeSlice _ _ _, _, _, _, _⟩) rfl _ _ 29 rfl 5 i0 (.int .u8 0) Try.underlying29 HI0.out HZ0.out 64 rfl rfl HB64.out (by omega) ?_; rw [HZ1.out, Nat.mul_one, show madeCells (Value.int .u8 0).cells 64 = (cel zeros).toArray from made_zeros2])
            | fail)
          refine (awake_calls _).mono ?_
          rintro e w7 ⟨rfl, hf7⟩
          have HZ7 := Lib.hid (HZZ.out.trans hf7)
          clear hf7
          go_wp2_with fail
          go_ret
          exact ⟨rfl, HZ7.out⟩
end Go.Proofs.Ytnnppihkgfohdaa
