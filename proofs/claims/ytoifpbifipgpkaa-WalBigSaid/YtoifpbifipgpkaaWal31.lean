/-
  wal: WalBig.
-/
import Derived.Test.YtoifpbifipgpkaaWal30
import Derived.Test.YtoifpbifipgpkaaWalRow
import Derived.Test.YtoifpbifipgpkaaMask
namespace Go.Proofs.Ytoifpbifipgpkaa
open Go.RowKit Go.MapKept
/-- The first k sectors, each of its kind. -/
def upU (k : Nat) : Int → Option (List UInt8) := fun i => if 0 ≤ i ∧ i < k then some (bys (i.toNat + 1) 64) else none
theorem upU_zero : upU 0 = fun _ => none := by funext i; unfold upU; rw [if_neg (by omega)]
theorem upU_at {k i : Nat} (h : i < k) : upU k i = some (bys (i + 1) 64) := by unfold upU; rw [if_pos (by omega)]; simp
theorem upU_out {k i : Nat} (h : k ≤ i) : upU k i = none := by unfold upU; rw [if_neg (by omega)]
theorem upU_next (k : Nat) : wrote (upU k) k (bys (k + 1) 64) = upU (k + 1) := by
  funext i
  unfold wrote upU
  by_cases h : i = k
  · subst h; rw [if_pos rfl, if_pos (by omega)]; simp
  · rw [if_neg h]
    by_cases h2 : 0 ≤ i ∧ i < k
    · rw [if_pos h2, if_pos (by omega)]
    · rw [if_neg h2, if_neg (by omega)]
theorem upU_again {k i : Nat} (h : i < k) (x : List UInt8) : wrote (wrote (upU k) i x) i (bys (i + 1) 64) = upU k := by
  funext j
  unfold wrote
  by_cases h2 : j = i
  · subst h2; rw [if_pos rfl]; exact (upU_at h).symm
  · rw [if_neg h2, if_neg h2]
/-- A new store with k sectors under way. -/
def bigS (c : Int) (k : Nat) : Sv := { Sv.new (v0 c) with U := upU k, k := k }
theorem fit_big (c : Int) (k : Nat) : Fit (bigS c k) := ⟨rfl, (fit0 c).live, rfl, numAt_zeros, fun _ => rfl, by simp [bigS, Sv.new]⟩
theorem bigS_tell (c : Int) (k i : Nat) : (bigS c k).tell i = if i < k then bys (i + 1) 64 else zeros := by
  unfold Sv.tell
  rw [(fit_big c k).text]
  by_cases h : i < k
  · rw [if_pos h]
    show ((upU k i).or _).getD _ = _
    rw [upU_at h]; rfl
  · rw [if_neg h]
    show ((upU k i).or _).getD _ = _
    rw [upU_out (by omega)]; rfl
theorem big_zero (c : Int) : bigS c 0 = Sv.new (v0 c) := by unfold bigS; rw [upU_zero]; rfl
theorem big_step (c : Int) (k : Nat) : { bigS c k with U := wrote (bigS c k).U (k : Int) (bys (k + 1) 64), k := if ((bigS c k).U (k : Int)).isSome then (bigS c k).k else (bigS c k).k + 1 } = bigS c (k + 1) := by
  have h1 : (bigS c k).U (k : Int) = none := upU_out (Nat.le_refl k)
  rw [h1]
  show { bigS c k with U := wrote (upU k) (k : Int) (bys (k + 1) 64), k := k + 1 } = _
  rw [upU_next]
  rfl
/-- The store while its sectors are written. -/
structure BigAt (w : World) (s p l m : Nat) (S : Sv) (wr : World) : Prop where
  ex : ∃ bs, StAt wr bs s p l m 500 500 1 S ∧ ∀ x ∈ bs, w.heap.size ≤ x ∧ x < wr.heap.size
  fr : Fr [] w wr
theorem BigAt.next {w : World} {s p l m : Nat} {S' : Sv} {wr w' : World} {bs : List Nat} (hbs : ∀ x ∈ bs, w.heap.size ≤ x ∧ x < wr.heap.size) (hf : Fr [] w wr) (hf' : Fr bs wr w') (hst : StAt w' bs s p l m 500 500 1 S') : BigAt w s p l m S' w' :=
  ⟨⟨bs, hst, fun x hx => by have := hbs x hx; have := hf'.size; omega⟩, hf.trans_new hf' (fun x hx => .inr (hbs x hx).1)⟩
theorem secI (j : Nat) (hj : j + 1 ≤ 100000) : ∀ W : World, Calls Try.prog 14 #[.int .i64 ((j : Int) + 1)] W fun e w' => ∃ g cap, e = .returned (.slice (some ⟨g, 0, none⟩) 64 cap) ∧ Fr [] W w' ∧ W.heap.size ≤ g ∧ g < w'.heap.size ∧ w'.rangeAt g 0 (cel (bys (j + 1) 64)) := fun W => by
  have := sector_calls W (j + 1) (by omega)
  rw [show ((j + 1 : Nat) : Int) = (j : Int) + 1 by omega] at this
  exact this.mono fun e w' ⟨g, cap, h1, h2, h3, h4, h5, _⟩ => ⟨g, cap, h1, h2, h3, h4, h5⟩
theorem mod200 (n : Int) : ∃ N : Nat, N < 200 ∧ (wrap64 (n.tmod 200 + 200)).tmod 200 = (N : Int) := by
  have h1 : n.tmod 200 < 200 := Int.tmod_lt_of_pos n (by decide)
  have h2 : (-n).tmod 200 < 200 := Int.tmod_lt_of_pos (-n) (by decide)
  rw [Int.neg_tmod] at h2
  have h3 : wrap64 (n.tmod 200 + 200) = n.tmod 200 + 200 := by simp only [wrap64]; omega
  rw [h3]
  have h4 : 0 ≤ (n.tmod 200 + 200).tmod 200 := Int.tmod_nonneg 200 (by omega)
  have h5 : (n.tmod 200 + 200).tmod 200 < 200 := Int.tmod_lt_of_pos _ (by decide)
  exact ⟨((n.tmod 200 + 200).tmod 200).toNat, by omega, by omega⟩
theorem made_zeros : madeCells #[.int .u8 0] 64 = (cel zeros).toArray := by
  have h : ∀ n : Nat, madeCells #[.int .u8 0] n = (cel (List.replicate n 0)).toArray := by
    intro n
    apply Array.ext_getElem?
    intro j
    by_cases hj : j < n
    · simp [madeCells, cel, hj, Nat.mod_one]
    · simp [madeCells, cel, hj]
  exact h 64
/-- A sector that is there, written anew. -/
def onceS (c : Int) (k i : Nat) (x : List UInt8) : Sv := { bigS c k with U := wrote (upU k) i x }
theorem big_once {c : Int} {k i : Nat} (h : i < k) (x : List UInt8) : { bigS c k with U := wrote (bigS c k).U (i : Int) x, k := if ((bigS c k).U (i : Int)).isSome then (bigS c k).k else (bigS c k).k + 1 } = onceS c k i x := by
  have h1 : (bigS c k).U (i : Int) = some (bys (i + 1) 64) := upU_at h
  rw [h1]
  rfl
theorem big_twice {c : Int} {k i : Nat} (h : i < k) (x : List UInt8) : { onceS c k i x with U := wrote (onceS c k i x).U (i : Int) (bys (i + 1) 64), k := if ((onceS c k i x).U (i : Int)).isSome then (onceS c k i x).k else (onceS c k i x).k + 1 } = bigS c k := by
  have h1 : (onceS c k i x).U (i : Int) = some x := by simp [onceS, wrote]
  rw [h1]
  show { bigS c k with U := wrote (wrote (upU k) i x) i (bys (i + 1) 64) } = _
  rw [upU_again h]
  rfl
theorem secH (q : Nat) (hq : 300 + q ≤ 100000) : ∀ W : World, Calls Try.prog 14 #[.int .i64 (300 + (q : Int))] W fun e w' => ∃ g cap, e = .returned (.slice (some ⟨g, 0, none⟩) 64 cap) ∧ Fr [] W w' ∧ W.heap.size ≤ g ∧ g < w'.heap.size ∧ w'.rangeAt g 0 (cel (bys (300 + q) 64)) := fun W => by
  have := sector_calls W (300 + q) (by omega)
  rw [show ((300 + q : Nat) : Int) = 300 + (q : Int) by omega] at this
  exact this.mono fun e w' ⟨g, cap, h1, h2, h3, h4, h5, _⟩ => ⟨g, cap, h1, h2, h3, h4, h5⟩
set_option maxRecDepth 100000 in
set_option maxHeartbeats 16000000 in
theorem big_calls (w : World) (n : Int) (ad : Option Addr) (cap : Nat) (zs : List Int) (hz : RdI w ad cap zs) (ab : Bool) :
    Calls Try.prog 7 #[.int .i64 n, .slice ad zs.length cap, .bool ab] w fun e w' => e = .returned (.bool true) ∧ Fr [] w w' := by
  have HO := Lib.hid (lopen_calls w 500 (by omega) (by omega))
  have HZ := Lib.hid hz
  obtain ⟨N, hN, hNe⟩ := mod200 n
  obtain ⟨i0, hi, hz0, hz1, hz2⟩ := info_parts Try.info5
  have HZ1 := Lib.hid hz1; have HI0 := Lib.hid hi; have HZ0 := Lib.hid hz0
  have HB64 : Hid (i0.bytes * 64 ≤ 281474976710656) := Lib.hid (by rw [hz2]; omega)
  clear hz0 hz1 hz2 hi
  clear hz
  go_enter Try.func7, Try.ntmps7
  go_wp2_with fail
  refine HO.out.mono ?_
  rintro e w1 ⟨p, l, m, s, bs, c, rfl, hf1, hbs, hst⟩
  rw [← big_zero] at hst
  have HB0 := Lib.hid (⟨⟨bs, hst, hbs⟩, hf1⟩ : BigAt w s p l m (bigS c 0) w1)
  clear hst hf1 hbs HO
  go_wp2_with fail
  clear hNe
  go_loopw [9] (fun v9 wr => ∃ j : Nat, j ≤ N ∧ v9 = .int .i64 j ∧ BigAt w s p l m (bigS c (min j 128)) wr) (fun v9 _ => N - (intOf v9).toNat)
  case atStart => exact ⟨0, by omega, rfl, HB0.out⟩
  case round =>
    clear HB0
    rename World => wr
    obtain ⟨j, hj, rfl, hba⟩ := hrel
    have hw1 : IntKind.i64.wrap ((j : Int) + 1) = (j : Int) + 1 := IntWalk.i64_in _ (by omega)
    by_cases hlt : j < N
    · have hl1 : (j : Int) < (N : Int) := by omega
      obtain ⟨⟨bs, hst, hbs⟩, hfr⟩ := hba
      have HSEC := Lib.hid (secI j (by omega))
      have HS := Lib.hid hst; have HBS := Lib.hid hbs; have HFR := Lib.hid hfr
      have hbl := bys_length (j + 1) 64
      clear hst hbs hfr
      by_cases h128 : j < 128
      · have hl2 : (j : Int) < 128 := by omega
        have hl3 : ¬ ((128 : Int) ≤ (j : Int)) := by omega
        go_wp2_with fail
        refine (HSEC.out _).mono ?_
        rintro e w2 ⟨g, cap2, rfl, hf2, hg1, hg2, hr2⟩
        have hst2 := HS.out.keep hf2 (by simp)
        rw [show min j 128 = j by omega] at hst2
        have hW := st_write hst2 rfl rfl j (by omega) g 0 cap2 _ hbl hr2 (fun hx => by have := (HBS.out _ hx).2; omega) (.inr (by show j < 128; exact h128))
        rw [big_step] at hW
        have HW := Lib.hid hW; have HF2 := Lib.hid hf2
        clear hW hst2 hr2 hf2 hbl
        go_wp2_with fail
        refine HW.out.mono ?_
        rintro e w3 ⟨rfl, hf3, hst3⟩
        have hsz := HF2.out.size
        have HN := Lib.hid (BigAt.next (fun x hx => by have := HBS.out x hx; omega) (HFR.out.trans HF2.out) hf3 hst3)
        clear hf3 hst3 HW
        go_wp2_with fail
        go_roundw
        case rel => exact ⟨j + 1, by omega, by go_num, by rw [show min (j + 1) 128 = j + 1 by omega]; exact HN.out⟩
        case measure => simp [intOf]; omega
      · have hl2 : ¬ ((j : Int) < 128) := by omega
        have hl3 : (128 : Int) ≤ (j : Int) := by omega
        go_wp2_with fail
        refine (HSEC.out _).mono ?_
        rintro e w2 ⟨g, cap2, rfl, hf2, hg1, hg2, hr2⟩
        have hst2 := HS.out.keep hf2 (by simp)
        rw [show min j 128 = 128 by omega] at hst2
        have hW := st_write_big hst2 rfl rfl j (by omega) g 0 cap2 _ hbl hr2 (fun hx => by have := (HBS.out _ hx).2; omega) (upU_out (by omega)) rfl
        have HW := Lib.hid hW; have HF2 := Lib.hid hf2
        clear hW hst2 hr2 hf2 hbl
        go_wp2_with fail
        refine HW.out.mono ?_
        rintro e w3 ⟨rfl, hf3, hst3⟩
        have hsz := HF2.out.size
        have HN := Lib.hid (BigAt.next (fun x hx => by have := HBS.out x hx; omega) (HFR.out.trans HF2.out) hf3 hst3)
        clear hf3 hst3 HW
        go_wp2_with fail
        go_roundw
        case rel => exact ⟨j + 1, by omega, by go_num, by rw [show min (j + 1) 128 = 128 by omega]; exact HN.out⟩
        case measure => simp [intOf]; omega
    · obtain rfl : j = N := by omega
      obtain ⟨M, hM⟩ : ∃ M, min j 128 = M := ⟨_, rfl⟩
      rw [hM] at hba
      have HB := Lib.hid hba
      clear hba hlt
      have hM0 : 0 < j → 0 < M := fun h => by omega
      have hMi : min (j : Int) 128 = (M : Int) := by omega
      go_wp2_with fail
      go_loopw [11] (fun v11 wr => ∃ t : Nat, (t ≤ 10 ∧ t ≤ zs.length) ∧ v11 = .int .i64 t ∧ BigAt w s p l m (bigS c M) wr) (fun v11 _ => 60 - (intOf v11).toNat)
      case atStart => exact ⟨0, by omega, rfl, HB.out⟩
      case round =>
        clear HB
        rename World => wr2
        obtain ⟨t, ht, rfl, hba⟩ := hrel
        have hw2 : IntKind.i64.wrap ((t : Int) + 1) = (t : Int) + 1 := IntWalk.i64_in _ (by omega)
        by_cases hlt : t < zs.length ∧ t < 10 ∧ 0 < j
        · have hl0 : (0 : Int) ≤ (t : Int) := by omega
          have hl1 : (t : Int) < (zs.length : Int) := by omega
          have hl2 : (t : Int) < 10 := by omega
          have hl3 : (0 : Int) < (j : Int) := by omega
          obtain ⟨⟨bs, hst, hbs⟩, hfr⟩ := hba
          obtain ⟨b0, off, rfl, hcz⟩ : ∃ b0 off, ad = some ⟨b0, off, none⟩ ∧ ∀ j, j < zs.length → wr2.cell? ⟨b0, off + j, none⟩ = some (.int .i64 (zs.getD j 0)) := by
            have hr := HZ.out.keep hfr
            cases had : ad with
            | none => have := hr.nil had; omega
            | some a =>
              obtain ⟨b0, off, rfl, hc⟩ := hr.at_ a had (by omega)
              exact ⟨b0, off, rfl, hc⟩
          have hc := hcz t hlt.1
          obtain ⟨z, hzz⟩ : ∃ z, zs.getD t 0 = z := ⟨_, rfl⟩
          rw [hzz] at hc
          have hm := mask65535 z
          have hMp := hM0 hlt.2.2
          have hMz : ¬ ((M : Int) = 0) := by omega
          obtain ⟨q, hq1, hq2⟩ : ∃ q : Nat, q < M ∧ (z % 65536).tmod (M : Int) = (q : Int) := by
            have h1 : 0 ≤ z % 65536 := Int.emod_nonneg _ (by decide)
            have h2 : 0 ≤ (z % 65536).tmod (M : Int) := Int.tmod_nonneg _ h1
            have h3 : (z % 65536).tmod (M : Int) < (M : Int) := Int.tmod_lt_of_pos _ (by omega)
            exact ⟨((z % 65536).tmod (M : Int)).toNat, by omega, by omega⟩
          have HS := Lib.hid hst; have HBS := Lib.hid hbs; have HFR := Lib.hid hfr
          clear hst hbs hfr hcz hzz
          have hw3 : IntKind.i64.wrap (300 + (q : Int)) = 300 + (q : Int) := IntWalk.i64_in _ (by omega)
          have hw4 : IntKind.i64.wrap ((q : Int) + 1) = (q : Int) + 1 := IntWalk.i64_in _ (by omega)
          have HH := Lib.hid (secH q (by omega)); have HI := Lib.hid (secI q (by omega))
          have hb3 := bys_length (300 + q) 64
          have hb4 := bys_length (q + 1) 64
          go_wp2_with fail
          refine (HH.out _).mono ?_
          rintro e w2 ⟨g, cap2, rfl, hf2, hg1, hg2, hr2⟩
          have hW := st_write (HS.out.keep hf2 (by simp)) rfl rfl q (by omega) g 0 cap2 _ hb3 hr2 (fun hx => by have := (HBS.out _ hx).2; omega) (.inl (by show (upU M q).isSome = true; rw [upU_at hq1]; rfl))
          rw [big_once hq1] at hW
          have HW := Lib.hid hW; have HF2 := Lib.hid hf2
          clear hW hr2 hf2 hb3 HS
          go_wp2_with fail
          refine HW.out.mono ?_
          rintro e w3 ⟨rfl, hf3, hst3⟩
          have hsz := HF2.out.size
          have HBS3 : Hid (∀ x ∈ bs, w.heap.size ≤ x ∧ x < w3.heap.size) := Lib.hid (fun x hx => by have := HBS.out x hx; have := hf3.size; omega)
          have HF3 := Lib.hid ((HFR.out.trans HF2.out).trans_new hf3 (fun x hx => .inr (HBS.out x hx).1))
          have HS3 := Lib.hid hst3
          clear hf3 hst3 HW HBS HFR HF2
          go_wp2_with fail
          refine (HI.out _).mono ?_
          rintro e w4 ⟨g4, cap4, rfl, hf4, hg3, hg4, hr4⟩
          have hW := st_write (HS3.out.keep hf4 (by simp)) rfl rfl q (by omega) g4 0 cap4 _ hb4 hr4 (fun hx => by have := (HBS3.out _ hx).2; omega) (.inl (by show (wrote (upU M) q _ q).isSome = true; simp [wrote]))
          rw [big_twice hq1] at hW
          have HW := Lib.hid hW; have HF4 := Lib.hid hf4
          clear hW hr4 hf4 hb4 HS3
          go_wp2_with fail
          refine HW.out.mono ?_
          rintro e w5 ⟨rfl, hf5, hst5⟩
          have hsz4 := HF4.out.size
          have HN := Lib.hid (BigAt.next (fun x hx => by have := HBS3.out x hx; omega) (HF3.out.trans HF4.out) hf5 hst5)
          clear hf5 hst5 HW
          go_wp2_with fail
          go_roundw
          case rel => exact ⟨t + 1, by omega, by go_num, HN.out⟩
          case measure => simp [intOf]; omega
        · obtain ⟨⟨bs, hst, hbs⟩, hfr⟩ := hba
          have hcond : ¬ ((t : Int) < (zs.length : Int)) ∨ ((t : Int) < (zs.length : Int) ∧ ¬ ((t : Int) < 10)) ∨ ((t : Int) < (zs.length : Int) ∧ (t : Int) < 10 ∧ ¬ ((0 : Int) < (j : Int))) := by omega
          have HS := Lib.hid hst; have HBS := Lib.hid hbs; have HFR := Lib.hid hfr
          clear hst hbs hfr hlt
          rcases hcond with hc1 | ⟨hc1, hc2⟩ | ⟨hc1, hc2, hc3⟩
          all_goals
            cases ab with
            | false =>
              have HC := Lib.hid (fit_commit HS.out (fit_big c M) (by show (0 : Int) < 9000000000000000000; omega) (by omega))
              have HCD := Lib.hid HS.out.card
              have HF2 := HFR
              have HB2 : Hid (∀ x ∈ bs, w.heap.size ≤ x) := Lib.hid (fun x hx => (HBS.out x hx).1)
              clear HS HBS HFR
              go_wp2_with fail
              refine HC.out.mono ?_
              rintro e w3 ⟨bs3, S1, rfl, hf3, hg3, hs1, hst3⟩
              have hco := committed (fit_big c M) HCD.out hs1
              obtain ⟨S3, hS3⟩ : ∃ S3, S1.push = S3 := ⟨_, rfl⟩
              rw [hS3] at hst3 hco
              have hsz2 := HF2.out.size
              have HF3 := Lib.hid (HF2.out.trans_new hf3 (fun x hx => .inr (HB2.out x hx)))
              have HB3 : Hid (∀ x ∈ bs3, w.heap.size ≤ x) := Lib.hid (fun x hx => by rcases hg3 x hx with h | h; exact HB2.out x h; omega)
              have HY := Lib.hid (fit_sync hst3 hco.fit (by omega))
              have HCO := Lib.hid hco
              clear hS3 hst3 hco hf3 hg3 hs1 HC HF2 HB2 HCD
              go_wp2_with fail
              refine HY.out.mono ?_
              rintro e w4 ⟨bs4, S4, rfl, hf4, hg4, hs4, hst4⟩
              have hla := lasting HCO.out.fit hs4
              have hsz3 := HF3.out.size
              have HT4 : Hid (∀ i : Nat, S4.tell i = if i < M then bys (i + 1) 64 else zeros) := Lib.hid (fun i => by rw [hla.tell, HCO.out.tell, bigS_tell])
              have HG4 := Lib.hid hla.fit
              have HST4 := Lib.hid hst4
              have HF4 := Lib.hid (HF3.out.trans_new hf4 (fun x hx => .inr (HB3.out x hx)))
              have HB4 : Hid (∀ x ∈ bs4, w.heap.size ≤ x) := Lib.hid (fun x hx => by rcases hg4 x hx with h | h; exact HB3.out x h; omega)
              clear hst4 hla hf4 hg4 hs4 HY HF3 HB3 HCO
              go_wp2_with fail
              go_loopw [13] (fun v13 wr => ∃ (i : Nat) (S : Sv) (b : Int) (bs : List Nat), i ≤ 200 ∧ v13 = .int .i64 i ∧ StAt wr bs s p l m 500 500 b S ∧ S.gone = false ∧ S.v.d = false ∧ (∀ k : Nat, S.tell k = if k < M then bys (k + 1) 64 else zeros) ∧ b ≤ 1801 + (i : Int) ∧ (∀ x ∈ bs, w.heap.size ≤ x) ∧ Fr [] w wr) (fun v13 _ => 300 - (intOf v13).toNat)
              case atStart => exact ⟨0, S4, _, bs4, by omega, rfl, HST4.out, HG4.out.gone, HG4.out.live.d, HT4.out, by simp, HB4.out, HF4.out⟩
              case round =>
                clear HST4 HG4 HT4 HB4 HF4
                rename World => wr
                obtain ⟨i, S, b, bs5, hi, rfl, hst, hgo, hvd, htl, hb, hbs5, hfr⟩ := hrel
                have hw5 : IntKind.i64.wrap ((i : Int) + 1) = (i : Int) + 1 := IntWalk.i64_in _ (by omega)
                by_cases hlt : i < 200
                · have hl1 : (i : Int) < 200 := by omega
                  have hR := st_read hst hgo hvd i (by omega) (by omega)
                  rw [htl i] at hR
                  have HR := Lib.hid hR; have HTL := Lib.hid htl; have HB5 := Lib.hid hbs5; have HFR5 := Lib.hid hfr; have HGO := Lib.hid hgo; have HVD := Lib.hid hvd
                  clear hst hR htl hbs5 hfr hgo hvd
                  by_cases hiM : i < M
                  · first
                    | (exfalso; omega)
                    | (
                      have hl2 : (i : Int) < (M : Int) := by omega
                      rw [if_pos hiM] at HR
                      go_wp2_with fail
                      refine HR.out.mono ?_
                      rintro e w5 ⟨x, c5, rfl, hf5, hst5, hx⟩
                      obtain ⟨g5, cap5, rfl, hs5⟩ := StrB.b64 (bys_length _ _) hx
                      have hsz5 := HFR5.out.size
                      have HF5 := Lib.hid (HFR5.out.trans_new hf5 (fun x hx => .inr (HB5.out x hx)))
                      have HST5 := Lib.hid hst5; have HS5 := Lib.hid hs5
                      clear hf5 hst5 hx hs5 HR
                      have hfz : Fr [] w5 (w5.alloc (.cells (cel zeros).toArray 5)) := (Fr.refl [] w5).alloc _
                      have HFZ := Lib.hid hfz
                      clear hfz
                      go_wp2_with (first
                        | (refine wL_make (o := ⟨some 110, .makeSlice _ _ _, _, _, _, _⟩) rfl _ _ 29 rfl 5 i0 (.int .u8 0) Try.underlying29 HI0.out HZ0.out 64 rfl rfl HB64.out (by omega) ?_; rw [HZ1.out, Nat.mul_one, show madeCells (Value.int .u8 0).cells 64 = (cel zeros).toArray from made_zeros])
                        | fail)
                      refine (secI i (by omega) _).mono ?_
                      rintro e w6 ⟨g6, cap6, rfl, hf6, _, _, hr6⟩
                      have hx5 := HS5.out w6 (HFZ.out.trans hf6)
                      have hx6 := StrB.range (cap := cap6) (bys_length _ _) hr6 w6 (Fr.refl [] w6)
                      have hsame := beq_selfB ⟨(bys (i + 1) 64).toArray⟩
                      have HF6 := Lib.hid (HFZ.out.trans hf6)
                      clear hf6 hr6
                      generalize bys (i + 1) 64 = T at *
                      go_wp2_with fail
                      go_roundw
                      case rel => exact ⟨i + 1, S.asked c5, b + 1, bs5, by omega, by go_num, HST5.out.keep HF6.out (by simp), HGO.out, HVD.out, HTL.out, by omega, HB5.out, HF5.out.trans HF6.out⟩
                      case measure => simp [intOf]; omega)
                  · have hl2 : ¬ ((i : Int) < (M : Int)) := by omega
                    rw [if_neg (by omega)] at HR
                    go_wp2_with fail
                    refine HR.out.mono ?_
                    rintro e w5 ⟨x, c5, rfl, hf5, hst5, hx⟩
                    obtain ⟨g5, cap5, rfl, hs5⟩ := StrB.b64 (rfl) hx
                    have hsz5 := HFR5.out.size
                    have HF5 := Lib.hid (HFR5.out.trans_new hf5 (fun x hx => .inr (HB5.out x hx)))
                    have HST5 := Lib.hid hst5; have HS5 := Lib.hid hs5
                    clear hf5 hst5 hx hs5 HR
                    have hfz : Fr [] w5 (w5.alloc (.cells (cel zeros).toArray 5)) := (Fr.refl [] w5).alloc _
                    have HFZ := Lib.hid hfz
                    have hx5 := HS5.out _ hfz
                    have hx6 := StrB.range (s := zeros) (n := 64) (cap := 64) rfl (rangeAt_new w5 (cel zeros) 5 w5.heap.size rfl) _ (Fr.refl [] _)
                    have hsame := beq_selfB ⟨zeros.toArray⟩
                    clear hfz
                    go_wp2_with (first
                      | (refine wL_make (o := ⟨some 110, .makeSlice _ _ _, _, _, _, _⟩) rfl _ _ 29 rfl 5 i0 (.int .u8 0) Try.underlying29 HI0.out HZ0.out 64 rfl rfl HB64.out (by omega) ?_; rw [HZ1.out, Nat.mul_one, show madeCells (Value.int .u8 0).cells 64 = (cel zeros).toArray from made_zeros])
                      | fail)
                    go_roundw
                    case rel => exact ⟨i + 1, S.asked c5, b + 1, bs5, by omega, by go_num, HST5.out.keep HFZ.out (by simp), HGO.out, HVD.out, HTL.out, by omega, HB5.out, HF5.out.trans HFZ.out⟩
                    case measure => simp [intOf]; omega
                · obtain rfl : i = 200 := by omega
                  have HFR5 := Lib.hid hfr
                  clear hst hgo hvd htl hbs5 hfr
                  go_wp2_with fail
                  refine (awake_calls _).mono ?_
                  rintro e w6 ⟨rfl, hf6⟩
                  have HZ6 := Lib.hid (HFR5.out.trans hf6)
                  clear hf6
                  go_wp2_with fail
                  go_ret
                  exact ⟨rfl, HZ6.out⟩
            | true =>
              have HK := Lib.hid (st_abort HS.out)
              go_wp2_with fail
              refine HK.out.mono ?_
              rintro e w2 ⟨bs2, rfl, hf2, hg2, hst2⟩
              have hsz2 := HFR.out.size
              have e0 : ({ bigS c M with U := fun _ => none, k := 0 } : Sv) = bigS c 0 := by unfold bigS; rw [upU_zero]
              rw [e0] at hst2
              have HC := Lib.hid (fit_commit hst2 (fit_big c 0) (by show (0 : Int) < 9000000000000000000; omega) (by omega))
              have HCD := Lib.hid hst2.card
              have HF2 := Lib.hid (HFR.out.trans_new hf2 (fun x hx => .inr (HBS.out x hx).1))
              have HB2 : Hid (∀ x ∈ bs2, w.heap.size ≤ x) := Lib.hid (fun x hx => by rcases hg2 x hx with h | h; exact (HBS.out x h).1; omega)
              clear hst2 hf2 hg2 HK HS HBS HFR e0
              go_wp2_with fail
              refine HC.out.mono ?_
              rintro e w3 ⟨bs3, S1, rfl, hf3, hg3, hs1, hst3⟩
              have hco := committed (fit_big c 0) HCD.out hs1
              obtain ⟨S3, hS3⟩ : ∃ S3, S1.push = S3 := ⟨_, rfl⟩
              rw [hS3] at hst3 hco
              have hsz2 := HF2.out.size
              have HF3 := Lib.hid (HF2.out.trans_new hf3 (fun x hx => .inr (HB2.out x hx)))
              have HB3 : Hid (∀ x ∈ bs3, w.heap.size ≤ x) := Lib.hid (fun x hx => by rcases hg3 x hx with h | h; exact HB2.out x h; omega)
              have HY := Lib.hid (fit_sync hst3 hco.fit (by omega))
              have HCO := Lib.hid hco
              clear hS3 hst3 hco hf3 hg3 hs1 HC HF2 HB2 HCD
              go_wp2_with fail
              refine HY.out.mono ?_
              rintro e w4 ⟨bs4, S4, rfl, hf4, hg4, hs4, hst4⟩
              have hla := lasting HCO.out.fit hs4
              have hsz3 := HF3.out.size
              have HT4 : Hid (∀ i : Nat, S4.tell i = if i < 0 then bys (i + 1) 64 else zeros) := Lib.hid (fun i => by rw [hla.tell, HCO.out.tell, bigS_tell])
              have HG4 := Lib.hid hla.fit
              have HST4 := Lib.hid hst4
              have HF4 := Lib.hid (HF3.out.trans_new hf4 (fun x hx => .inr (HB3.out x hx)))
              have HB4 : Hid (∀ x ∈ bs4, w.heap.size ≤ x) := Lib.hid (fun x hx => by rcases hg4 x hx with h | h; exact HB3.out x h; omega)
              clear hst4 hla hf4 hg4 hs4 HY HF3 HB3 HCO
              go_wp2_with fail
              go_loopw [13] (fun v13 wr => ∃ (i : Nat) (S : Sv) (b : Int) (bs : List Nat), i ≤ 200 ∧ v13 = .int .i64 i ∧ StAt wr bs s p l m 500 500 b S ∧ S.gone = false ∧ S.v.d = false ∧ (∀ k : Nat, S.tell k = if k < 0 then bys (k + 1) 64 else zeros) ∧ b ≤ 1801 + (i : Int) ∧ (∀ x ∈ bs, w.heap.size ≤ x) ∧ Fr [] w wr) (fun v13 _ => 300 - (intOf v13).toNat)
              case atStart => exact ⟨0, S4, _, bs4, by omega, rfl, HST4.out, HG4.out.gone, HG4.out.live.d, HT4.out, by simp, HB4.out, HF4.out⟩
              case round =>
                clear HST4 HG4 HT4 HB4 HF4
                rename World => wr
                obtain ⟨i, S, b, bs5, hi, rfl, hst, hgo, hvd, htl, hb, hbs5, hfr⟩ := hrel
                have hw5 : IntKind.i64.wrap ((i : Int) + 1) = (i : Int) + 1 := IntWalk.i64_in _ (by omega)
                by_cases hlt : i < 200
                · have hl1 : (i : Int) < 200 := by omega
                  have hR := st_read hst hgo hvd i (by omega) (by omega)
                  rw [htl i] at hR
                  have HR := Lib.hid hR; have HTL := Lib.hid htl; have HB5 := Lib.hid hbs5; have HFR5 := Lib.hid hfr; have HGO := Lib.hid hgo; have HVD := Lib.hid hvd
                  clear hst hR htl hbs5 hfr hgo hvd
                  by_cases hiM : i < M
                  · first
                    | (exfalso; omega)
                    | (
                      have hl2 : (i : Int) < (M : Int) := by omega
                      rw [if_neg (by omega)] at HR
                      go_wp2_with fail
                      refine HR.out.mono ?_
                      rintro e w5 ⟨x, c5, rfl, hf5, hst5, hx⟩
                      obtain ⟨g5, cap5, rfl, hs5⟩ := StrB.b64 (rfl) hx
                      have hsz5 := HFR5.out.size
                      have HF5 := Lib.hid (HFR5.out.trans_new hf5 (fun x hx => .inr (HB5.out x hx)))
                      have HST5 := Lib.hid hst5; have HS5 := Lib.hid hs5
                      clear hf5 hst5 hx hs5 HR
                      have hfz : Fr [] w5 (w5.alloc (.cells (cel zeros).toArray 5)) := (Fr.refl [] w5).alloc _
                      have HFZ := Lib.hid hfz
                      have hx5 := HS5.out _ hfz
                      have hx6 := StrB.range (s := zeros) (n := 64) (cap := 64) rfl (rangeAt_new w5 (cel zeros) 5 w5.heap.size rfl) _ (Fr.refl [] _)
                      have hsame := beq_selfB ⟨zeros.toArray⟩
                      clear hfz
                      go_wp2_with (first
                        | (refine wL_make (o := ⟨some 110, .makeSlice _ _ _, _, _, _, _⟩) rfl _ _ 29 rfl 5 i0 (.int .u8 0) Try.underlying29 HI0.out HZ0.out 64 rfl rfl HB64.out (by omega) ?_; rw [HZ1.out, Nat.mul_one, show madeCells (Value.int .u8 0).cells 64 = (cel zeros).toArray from made_zeros])
                        | fail)
                      go_roundw
                      case rel => exact ⟨i + 1, S.asked c5, b + 1, bs5, by omega, by go_num, HST5.out.keep HFZ.out (by simp), HGO.out, HVD.out, HTL.out, by omega, HB5.out, HF5.out.trans HFZ.out⟩
                      case measure => simp [intOf]; omega)
                  · have hl2 : ¬ ((i : Int) < (M : Int)) := by omega
                    rw [if_neg (by omega)] at HR
                    go_wp2_with fail
                    refine HR.out.mono ?_
                    rintro e w5 ⟨x, c5, rfl, hf5, hst5, hx⟩
                    obtain ⟨g5, cap5, rfl, hs5⟩ := StrB.b64 (rfl) hx
                    have hsz5 := HFR5.out.size
                    have HF5 := Lib.hid (HFR5.out.trans_new hf5 (fun x hx => .inr (HB5.out x hx)))
                    have HST5 := Lib.hid hst5; have HS5 := Lib.hid hs5
                    clear hf5 hst5 hx hs5 HR
                    have hfz : Fr [] w5 (w5.alloc (.cells (cel zeros).toArray 5)) := (Fr.refl [] w5).alloc _
                    have HFZ := Lib.hid hfz
                    have hx5 := HS5.out _ hfz
                    have hx6 := StrB.range (s := zeros) (n := 64) (cap := 64) rfl (rangeAt_new w5 (cel zeros) 5 w5.heap.size rfl) _ (Fr.refl [] _)
                    have hsame := beq_selfB ⟨zeros.toArray⟩
                    clear hfz
                    go_wp2_with (first
                      | (refine wL_make (o := ⟨some 110, .makeSlice _ _ _, _, _, _, _⟩) rfl _ _ 29 rfl 5 i0 (.int .u8 0) Try.underlying29 HI0.out HZ0.out 64 rfl rfl HB64.out (by omega) ?_; rw [HZ1.out, Nat.mul_one, show madeCells (Value.int .u8 0).cells 64 = (cel zeros).toArray from made_zeros])
                      | fail)
                    go_roundw
                    case rel => exact ⟨i + 1, S.asked c5, b + 1, bs5, by omega, by go_num, HST5.out.keep HFZ.out (by simp), HGO.out, HVD.out, HTL.out, by omega, HB5.out, HF5.out.trans HFZ.out⟩
                    case measure => simp [intOf]; omega
                · obtain rfl : i = 200 := by omega
                  have HFR5 := Lib.hid hfr
                  clear hst hgo hvd htl hbs5 hfr
                  go_wp2_with fail
                  refine (awake_calls _).mono ?_
                  rintro e w6 ⟨rfl, hf6⟩
                  have HZ6 := Lib.hid (HFR5.out.trans hf6)
                  clear hf6
                  go_wp2_with fail
                  go_ret
                  exact ⟨rfl, HZ6.out⟩
end Go.Proofs.Ytoifpbifipgpkaa
