/-
  wal: WalDead.
-/
import Derived.Test.YtnnppihkgfohdaaWal33
import Derived.Test.YtnnppihkgfohdaaWal34
import Derived.Test.YtnnppihkgfohdaaWalRow
import Derived.Test.YtnnppihkgfohdaaMask
namespace Go.Proofs.Ytnnppihkgfohdaa
open Go.RowKit Go.MapKept
theorem t_writeI {w : World} {bs : List Nat} {s p l m n q : Nat} {b : Int} {S : Sv} (h : StAt w bs s p l m n q b S) (ht : Tame S) (i : Int) (hi : 0 ≤ i ∧ i < 16) (hin : 316 ≤ n) (g o cap : Nat) (x : List UInt8) (hx : x.length = 64) (hr : w.rangeAt g o (cel x)) (hgb : g ∉ bs) :
    Calls Try.prog 10 #[.pointer (some ⟨s, 0, none⟩), .int .i64 i, .slice (some ⟨g, o, none⟩) 64 cap] w (Stepped w bs s p l m n q b S) := by
  obtain ⟨k, rfl⟩ : ∃ k : Nat, i = k := ⟨i.toNat, by omega⟩
  exact t_write h ht k (by omega) hin g o cap x hx hr hgb
/-- Where the walk stands between two calls. -/
structure DRound (w : World) (s p l m : Nat) (j : Nat) (wr : World) : Prop where
  ex : ∃ bs S b, StAt wr bs s p l m 340 340 b S ∧ Tame S ∧ S.all ≤ j ∧ b ≤ 1 + 740 * (j : Int) ∧ ∀ x ∈ bs, w.heap.size ≤ x ∧ x < wr.heap.size
  fr : Fr [] w wr
theorem DRound.next {w : World} {s p l m j : Nat} {wr : World} {bs : List Nat} {S : Sv} {b : Int} (hst : StAt wr bs s p l m 340 340 b S) (hb : b ≤ 1 + 740 * (j : Int)) (ha : S.all ≤ j) (hbs : ∀ x ∈ bs, w.heap.size ≤ x ∧ x < wr.heap.size) (hf : Fr [] w wr)
    {w' : World} {bs' : List Nat} {S' : Sv} {code : Int} (hf' : Fr bs wr w') (hg : Grew wr bs bs') (hst' : StAt w' bs' s p l m 340 340 (b + (340 : Nat) + 400) S') (hs : Step S S' code) : DRound w s p l m (j + 1) w' := by
  obtain ⟨bs2, htr, hst2⟩ := hst'.trim
  have hsz := hf.size
  refine ⟨⟨bs2, S', _, hst2, hs.tame, by have := hs.all; omega, by omega, fun x hx => ?_⟩, hf.trans_new hf' (fun x hx => .inr (hbs x hx).1)⟩
  have h1 := htr x hx
  rcases hg x h1.1 with h | h
  · exact ⟨(hbs x h).1, h1.2⟩
  · exact ⟨by omega, h1.2⟩
theorem Lies.dev {w w' : World} {bs : List Nat} {s p l m n : Nat} {S : Sv} {u : Nat} {wv : Value} {ms : List Nat} {B : Nat} (hl : Lies w bs s p l m n S u wv ms B) (hsp : s ≠ p) (hf : Fr [p] w w') {S' : Sv} (h1 : S'.all = S.all) (h2 : S'.last = S.last) (h3 : S'.gone = S.gone) (hU : S'.U = S.U) (hC : S'.Cs = S.Cs) : Lies w' bs s p l m n S' u wv ms B :=
  ⟨by rw [h1, h2, h3]; exact hf.keep hl.box (by simpa using hsp), by rw [hU]; exact hl.und.keep hf (by simpa using hl.usep.2.1), own_keepF hl.own hf (fun g hg => by simpa using (hl.row hg).2.1), by have := hl.top; have := hf.size; omega, by rw [hC]; exact hl.len,
    fun j hj => by rw [hC]; exact (hl.wts j hj).keep hf (by simpa using (hl.msep _ (getD_mem hj)).2.1), hl.usep, hl.msep, hl.bs4, hl.bsm, hl.bsr⟩
theorem st_fuse {w : World} {bs : List Nat} {s p l m n q : Nat} {b : Int} {S : Sv} (h : StAt w bs s p l m n q b S) (k : Int) (hk : -9223372036854775808 ≤ k ∧ k ≤ 9223372036854775807) :
    Calls Try.prog 19 #[.pointer (some ⟨p, 0, none⟩), .int .i64 k] w fun e w' => e = .returned (.tuple #[]) ∧ Fr bs w w' ∧ StAt w' bs s p l m n q b { S with v := ⟨S.v.c, k, S.v.d, S.v.ls, S.v.wt⟩ } := by
  obtain ⟨u, wv, ms, B, hl⟩ := h.lies
  refine (fuse_calls w p l m n q _ _ _ _ _ h.dev.at_ k).mono ?_
  rintro e w' ⟨rfl, hf, hd⟩
  exact ⟨rfl, hf.mono (fun x hx => by simp at hx; subst hx; exact hl.bs4.2.1), ⟨⟨u, wv, ms, B, hl.dev h.sep.1 hf rfl rfl rfl rfl rfl⟩, ⟨hd, h.dev.cb, hk⟩, h.sep, h.card, h.k128, h.klen, h.cards, h.k1, h.room, h.c16, h.n300, h.cnt⟩⟩
set_option maxRecDepth 100000 in
set_option maxHeartbeats 16000000 in
theorem wdead_calls (w : World) (fz : Int) (ad : Option Addr) (cap : Nat) (zs : List Int) (hz : RdI w ad cap zs) :
    Calls Try.prog 4 #[.int .i64 fz, .slice ad zs.length cap] w fun e w' => e = .returned (.bool true) ∧ Fr [] w w' := by
  have HO := Lib.hid (lopen_calls w 340 (by omega) (by omega))
  have HZ := Lib.hid hz
  have hm31 := mask31 fz
  clear hz
  go_enter Try.func4, Try.ntmps4
  go_wp2_with fail
  refine HO.out.mono ?_
  rintro e w1 ⟨p, l, m, s, bs1, c, rfl, hf1, hbs1, hst1⟩
  have HFU := Lib.hid (st_fuse hst1 (fz % 32) (by omega))
  have HF1 := Lib.hid hf1; have HBS1 := Lib.hid hbs1
  clear hst1 hf1 hbs1 HO
  go_wp2_with fail
  refine HFU.out.mono ?_
  rintro e w2 ⟨rfl, hf2, hst2⟩
  have hd0 : DRound w s p l m 0 w2 := by
    have hsz := hf2.size
    exact ⟨⟨bs1, _, 1, hst2, ⟨fun h => by simp [Sv.new] at h, fun j t h => by simp [Sv.new] at h⟩, by simp [Sv.new], by omega, fun x hx => by have := HBS1.out x hx; omega⟩, HF1.out.trans_new hf2 (fun x hx => .inr (HBS1.out x hx).1)⟩
  have HD0 := Lib.hid hd0
  clear hd0 hst2 hf2 HFU HBS1 HF1
  go_wp2_with fail
  go_loopw [7] (fun v7 wr => ∃ j : Nat, (j ≤ 30 ∧ j ≤ zs.length) ∧ v7 = .int .i64 j ∧ DRound w s p l m j wr) (fun v7 _ => 60 - (intOf v7).toNat)
  case atStart => exact ⟨0, by omega, rfl, HD0.out⟩
  case round =>
    clear HD0
    rename World => wr
    obtain ⟨j, hj, rfl, hdr⟩ := hrel
    obtain ⟨⟨bs, S, b, hst, ht, hall, hb, hbs⟩, hfr⟩ := hdr
    have hw1 : IntKind.i64.wrap ((j : Int) + 1) = (j : Int) + 1 := IntWalk.i64_in _ (by omega)
    by_cases hlt : j < zs.length ∧ j < 30
    · have hl1 : (j : Int) < (zs.length : Int) := by omega
      have hl2 : (j : Int) < 30 := by omega
      have hl0 : (0 : Int) ≤ (j : Int) := by omega
      obtain ⟨b0, off, rfl, hcz⟩ : ∃ b0 off, ad = some ⟨b0, off, none⟩ ∧ ∀ j, j < zs.length → wr.cell? ⟨b0, off + j, none⟩ = some (.int .i64 (zs.getD j 0)) := by
        have hr := HZ.out.keep hfr
        cases had : ad with
        | none => have := hr.nil had; omega
        | some a =>
          obtain ⟨b0, off, rfl, hc⟩ := hr.at_ a had (by omega)
          exact ⟨b0, off, rfl, hc⟩
      have hc := hcz j hlt.1
      have hsz := hfr.size
      have HDD := Lib.hid (dead_calls wr p l m 340 340 _ _ _ _ _ hst.dev.at_)
      obtain ⟨dd, hdd⟩ : ∃ dd, S.v.d = dd := ⟨_, rfl⟩
      rw [hdd] at HDD
      obtain ⟨z, hzz⟩ : ∃ z, zs.getD j 0 = z := ⟨_, rfl⟩
      rw [hzz] at hc
      have hm3 := mask3 z
      clear hcz hzz
      obtain ⟨ln, hln⟩ : ∃ ln, zs.length = ln := ⟨_, rfl⟩
      rw [hln] at hl1 hj hlt
      have HLN := Lib.hid hln
      rcases (by omega : z % 4 = 0 ∨ z % 4 = 1 ∨ z % 4 = 2 ∨ z % 4 = 3) with h4 | h4 | h4 | h4
      all_goals
        rw [h4] at hm3
        rw [hln]
      rotate_left 2
      · have HK := Lib.hid (t_commit hst ht (by omega) (by omega))
        have HS := Lib.hid hst; have HBS := Lib.hid hbs; have HFR := Lib.hid hfr
        clear hst hbs hfr hln
        go_wp2_with fail
        refine HDD.out.mono ?_
        rintro e w3 ⟨rfl, rfl⟩
        go_wp2_with fail
        refine HK.out.mono ?_
        rintro e w5 ⟨bs', S', code, rfl, hf5, hg5, hst5, hs5⟩
        have hst4 := HS.out; have hbs4 := HBS.out; have hfr4 := HFR.out
        clear HK HS HBS HFR HDD
        have hnx := DRound.next hst4 hb hall hbs4 hfr4 hf5 hg5 hst5 hs5
        have HNX := Lib.hid hnx
        have HD5 := Lib.hid (dead_calls w5 p l m 340 340 _ _ _ _ _ hst5.dev.at_)
        have hso := hs5.out
        rw [hdd] at hso
        clear hnx hf5 hg5 hst5 hs5 hst4 hbs4 hfr4
        rcases hso with ⟨rfl, rfl, h3⟩ | ⟨rfl, rfl, h3⟩ | ⟨rfl, rfl, h3⟩
        · rw [h3] at HD5
          go_wp2_with fail
          refine HD5.out.mono ?_
          rintro e w6 ⟨rfl, rfl⟩
          go_wp2_with fail
          go_roundw
          case rel => exact ⟨j + 1, by omega, by go_num, HNX.out⟩
          case measure => simp [intOf]; omega
        · clear HD5
          go_wp2_with fail
          go_roundw
          case rel => exact ⟨j + 1, by omega, by go_num, HNX.out⟩
          case measure => simp [intOf]; omega
        · rw [h3] at HD5
          go_wp2_with fail
          refine HD5.out.mono ?_
          rintro e w6 ⟨rfl, rfl⟩
          go_wp2_with fail
          go_roundw
          case rel => exact ⟨j + 1, by omega, by go_num, HNX.out⟩
          case measure => simp [intOf]; omega
      · have HK := Lib.hid (t_sync hst ht (by omega))
        have HS := Lib.hid hst; have HBS := Lib.hid hbs; have HFR := Lib.hid hfr
        clear hst hbs hfr hln
        go_wp2_with fail
        refine HDD.out.mono ?_
        rintro e w3 ⟨rfl, rfl⟩
        go_wp2_with fail
        refine HK.out.mono ?_
        rintro e w5 ⟨bs', S', code, rfl, hf5, hg5, hst5, hs5⟩
        have hst4 := HS.out; have hbs4 := HBS.out; have hfr4 := HFR.out
        clear HK HS HBS HFR HDD
        have hnx := DRound.next hst4 hb hall hbs4 hfr4 hf5 hg5 hst5 hs5
        have HNX := Lib.hid hnx
        have HD5 := Lib.hid (dead_calls w5 p l m 340 340 _ _ _ _ _ hst5.dev.at_)
        have hso := hs5.out
        rw [hdd] at hso
        clear hnx hf5 hg5 hst5 hs5 hst4 hbs4 hfr4
        rcases hso with ⟨rfl, rfl, h3⟩ | ⟨rfl, rfl, h3⟩ | ⟨rfl, rfl, h3⟩
        · rw [h3] at HD5
          go_wp2_with fail
          refine HD5.out.mono ?_
          rintro e w6 ⟨rfl, rfl⟩
          go_wp2_with fail
          go_roundw
          case rel => exact ⟨j + 1, by omega, by go_num, HNX.out⟩
          case measure => simp [intOf]; omega
        · clear HD5
          go_wp2_with fail
          go_roundw
          case rel => exact ⟨j + 1, by omega, by go_num, HNX.out⟩
          case measure => simp [intOf]; omega
        · rw [h3] at HD5
          go_wp2_with fail
          refine HD5.out.mono ?_
          rintro e w6 ⟨rfl, rfl⟩
          go_wp2_with fail
          go_roundw
          case rel => exact ⟨j + 1, by omega, by go_num, HNX.out⟩
          case measure => simp [intOf]; omega
      all_goals
        have HSEC : Hid (∀ W : World, Calls Try.prog 11 #[.int .i64 ((j : Int) + 1)] W fun e w' => ∃ g cap, e = .returned (.slice (some ⟨g, 0, none⟩) 64 cap) ∧ Fr [] W w' ∧ W.heap.size ≤ g ∧ g < w'.heap.size ∧ w'.rangeAt g 0 (cel (bys (j + 1) 64)) ∧ w'.there g 0 64 ∧ 64 ≤ cap ∧ cap ≤ 9223372036854775807) := Lib.hid (fun W => by
          have := sector_calls W (j + 1) (by omega)
          rw [show ((j + 1 : Nat) : Int) = (j : Int) + 1 by omega] at this
          exact this)
        have hbl := bys_length (j + 1) 64
        generalize bys (j + 1) 64 = T at *
        have HTL := Lib.hid hbl
        have HS := Lib.hid hst; have HBS := Lib.hid hbs; have HFR := Lib.hid hfr
        have hm15 := mask15
        clear hst hbs hfr hln hbl
        go_wp2_with fail
        refine HDD.out.mono ?_
        rintro e w3 ⟨rfl, rfl⟩
        go_wp2_with fail
        have hq : Fr [] wr wr.drew := (Fr.refl [] wr).drew
        have hcq : wr.drew.cell? ⟨b0, off + j, none⟩ = some (.int .i64 z) := hc
        go_region_with (first
          | (go_at_call 11; (with_reducible refine (HSEC.out _).mono ?_); rintro e w4 ⟨g4, cap4, rfl, hf4, hg4, hg4b, hr4, _, _, _⟩; have hq := hq.trans hf4; have hc4 : w4.cell? ⟨b0, off + j, none⟩ = some (.int .i64 z) := (World.cell?_of_block (w := wr.drew) (hf4.block b0 (World.block_lt_of_cell? _ _ hcq) (by simp))).trans hcq)
          | (go_at_call 10; (with_reducible refine (t_writeI (HS.out.keep hq (by simp)) ht _ ⟨Int.emod_nonneg _ (by decide), Int.emod_lt_of_pos _ (by decide)⟩ (by omega) _ _ _ T HTL.out hr4 ?_).mono ?_); exact (fun hx => (by have h1 := (HBS.out _ hx).2; have h2 : wr.heap.size ≤ g4 := hg4; omega)); rintro e w5 ⟨bs', S', code, rfl, hf5, hg5, hst5, hs5⟩))
        all_goals
          have hst4 := HS.out.keep hq (by simp)
          have hfr4 := HFR.out.trans hq
          have hbs4 : ∀ x ∈ bs, w.heap.size ≤ x ∧ x < w4.heap.size := fun x hx => by have := HBS.out x hx; have := hq.size; omega
          clear HSEC HS HBS HFR HDD hm15 hf4 hq hcq hc4 hr4 HTL
          have hnx := DRound.next hst4 hb hall hbs4 hfr4 hf5 hg5 hst5 hs5
          have HNX := Lib.hid hnx
          have HD5 := Lib.hid (dead_calls w5 p l m 340 340 _ _ _ _ _ hst5.dev.at_)
          have hso := hs5.out
          rw [hdd] at hso
          clear hnx hf5 hg5 hst5 hs5 hst4 hbs4 hfr4
          rcases hso with ⟨rfl, rfl, h3⟩ | ⟨rfl, rfl, h3⟩ | ⟨rfl, rfl, h3⟩
          · rw [h3] at HD5
            go_wp2_with fail
            refine HD5.out.mono ?_
            rintro e w6 ⟨rfl, rfl⟩
            go_wp2_with fail
            go_roundw
            case rel => exact ⟨j + 1, by omega, by go_num, HNX.out⟩
            case measure => simp [intOf]; omega
          · clear HD5
            go_wp2_with fail
            go_roundw
            case rel => exact ⟨j + 1, by omega, by go_num, HNX.out⟩
            case measure => simp [intOf]; omega
          · rw [h3] at HD5
            go_wp2_with fail
            refine HD5.out.mono ?_
            rintro e w6 ⟨rfl, rfl⟩
            go_wp2_with fail
            go_roundw
            case rel => exact ⟨j + 1, by omega, by go_num, HNX.out⟩
            case measure => simp [intOf]; omega
    · have HRD := Lib.hid (fun h => st_read_dead hst h 0)
      have HDD := Lib.hid (dead_calls wr p l m 340 340 _ _ _ _ _ hst.dev.at_)
      have hgd := ht.gd
      have hbl := hst.dev
      have hsz := hfr.size
      obtain ⟨u9, wv9, ms9, B9, hl9⟩ := hst.lies
      have hpl : w.heap.size ≤ p ∧ w.heap.size ≤ l ∧ w.heap.size ≤ m := ⟨(hbs _ hl9.bs4.2.1).1, (hbs _ hl9.bs4.2.2.1).1, (hbs _ hl9.bs4.2.2.2.1).1⟩
      have HBS := Lib.hid hbs; have HFR := Lib.hid hfr
      clear hst hbs hfr hl9
      obtain ⟨dd, hdd⟩ : ∃ dd, S.v.d = dd := ⟨_, rfl⟩
      rw [hdd] at HDD
      have hcond : (j : Int) < (zs.length : Int) ∧ ¬ ((j : Int) < 30) ∨ ¬ ((j : Int) < (zs.length : Int)) := by omega
      clear hlt
      obtain ⟨ln, hln⟩ : ∃ ln, zs.length = ln := ⟨_, rfl⟩
      rw [hln] at hcond hj ⊢
      rcases hcond with ⟨hc1, hc2⟩ | hc1
      all_goals
        cases dd with
        | false =>
          go_wp2_with fail
          refine HDD.out.mono ?_
          rintro e w3 ⟨rfl, rfl⟩
          go_wp2_with fail
          refine (awake_calls _).mono ?_
          rintro e w4 ⟨rfl, hf4⟩
          have HZ4 := Lib.hid (HFR.out.trans hf4)
          clear hf4
          go_wp2_with fail
          go_ret
          exact ⟨rfl, HZ4.out⟩
        | true =>
          have HR := Lib.hid (HRD.out (by rw [hdd]; simp))
          clear HRD
          go_wp2_with fail
          refine HDD.out.mono ?_
          rintro e w3 ⟨rfl, rfl⟩
          go_wp2_with fail
          refine HR.out.mono ?_
          rintro e w4 ⟨rfl, hf4, hst4⟩
          have hop := open_dead w4 p l m 340 340 b S.v hst4.dev (by omega) (by omega) hdd
          have HOP := Lib.hid hop
          have HF4 := Lib.hid (HFR.out.trans_new hf4 (fun x hx => .inr (HBS.out x hx).1))
          clear hop hst4 hf4 HR HDD
          go_wp2_with fail
          refine HOP.out.mono ?_
          rintro e w5 ⟨rfl, hf5⟩
          have HF5 := Lib.hid (HF4.out.trans_new hf5 (fun x hx => by simp at hx; omega))
          clear hf5 HOP HF4
          go_wp2_with fail
          refine (open_nil _).mono ?_
          rintro e w6 ⟨rfl, rfl⟩
          go_wp2_with fail
          refine (new_ok _ 300 (by omega)).mono ?_
          rintro e w7 ⟨p7, l7, m7, rfl, hf7, _, _, _, hd7⟩
          have HOS := Lib.hid (open_small w7 p7 l7 m7 300 300 0 ⟨0, -1, false, fun _ => zeros, fun _ => none⟩ ⟨hd7, by simp, by simp⟩ (by omega))
          have HF7 := Lib.hid (HF5.out.trans hf7)
          clear hf7 hd7 HF5
          go_wp2_with fail
          refine HOS.out.mono ?_
          rintro e w8 ⟨rfl, rfl⟩
          clear HOS
          go_wp2_with fail
          refine (awake_calls _).mono ?_
          rintro e w9 ⟨rfl, hf9⟩
          have HF9 := Lib.hid (HF7.out.trans hf9)
          clear hf9
          go_wp2_with fail
          go_ret
          exact ⟨rfl, HF9.out⟩
end Go.Proofs.Ytnnppihkgfohdaa
