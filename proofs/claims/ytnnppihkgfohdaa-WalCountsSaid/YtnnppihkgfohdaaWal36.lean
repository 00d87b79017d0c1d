/-
  wal: WalLong.
-/
import Derived.Test.YtnnppihkgfohdaaWal30
import Derived.Test.YtnnppihkgfohdaaWalRow
import Derived.Test.YtnnppihkgfohdaaMask
namespace Go.Proofs.Ytnnppihkgfohdaa
open Go.RowKit Go.MapKept
theorem made_zeros2 : madeCells #[.int .u8 0] 64 = (cel zeros).toArray := by
  have h : ∀ n : Nat, madeCells #[.int .u8 0] n = (cel (List.replicate n 0)).toArray := by
    intro n
    apply Array.ext_getElem?
    intro j
    by_cases hj : j < n
    · simp [madeCells, cel, hj, Nat.mod_one]
    · simp [madeCells, cel, hj]
  exact h 64
/-- What a sector of a kind reads as. -/
def wantN (k : Nat) : List UInt8 := if 0 < k then bys k 64 else zeros
theorem wantN_length (k : Nat) : (wantN k).length = 64 := by
  unfold wantN
  split
  · exact bys_length _ _
  · rfl
/-- Sixty-four ints in an array. -/
def arrL (F : Nat → Nat) : Array Value := ((List.range 64).map fun p => Value.int .i64 (F p)).toArray
theorem arrL_get (F : Nat → Nat) {p : Nat} (h : p < 64) : (arrL F)[p]? = some (.int .i64 (F p)) := by simp [arrL, h]
theorem arrL_set (F : Nat → Nat) {p : Nat} (_h : p < 64) (x : Nat) : (arrL F).setIfInBounds p (.int .i64 x) = arrL (fun q => if q = p then x else F q) := by
  apply Array.ext_getElem?
  intro q
  by_cases hq : q < 64
  · by_cases e : p = q
    · subst e
      simp [arrL, hq]
    · have e' : ¬ q = p := fun h => e h.symm
      rw [Array.getElem?_setIfInBounds_ne e, arrL_get _ hq, arrL_get _ hq, if_neg e']
  · simp [arrL, hq]
/-- Where the walk stands between two writes. -/
structure LongAt (w : World) (s p l m A i : Nat) (cl : Bool) (F : Nat → Nat) (wr : World) : Prop where
  ex : ∃ bs S b, StAt wr bs s p l m 400 400 b S ∧ Fit S ∧ S.all = i ∧ b ≤ 1 + 800 * (i : Int) ∧ (∀ j t, S.U j = some t → 0 ≤ j ∧ j < 64) ∧ (∀ q, q < 64 → S.tell q = wantN (F q)) ∧ (∀ x ∈ bs, w.heap.size ≤ x ∧ x < wr.heap.size) ∧ A ∉ bs ∧ (cl = true → S.U = fun _ => none)
  arr : wr.heap[A]? = some (.cells (arrL F) 62 (0, 0))
  bd : ∀ q, F q ≤ 1000
  fr : Fr [] w wr
theorem key64 {S : Sv} (hc : Card S.U S.k) (h : ∀ j t, S.U j = some t → 0 ≤ j ∧ j < 64) : S.k ≤ 64 := by
  obtain ⟨ks, hn, hm, hl⟩ := hc
  rw [← hl]
  exact nodup_bound2 64 ks hn (fun x hx => by
    obtain ⟨t, ht⟩ := (hm x).1 hx
    have := h x t ht
    omega)
/-- One sector more is under way. -/
def Sv.put (S : Sv) (q : Nat) (x : List UInt8) : Sv := { S with U := wrote S.U q x, k := if (S.U q).isSome then S.k else S.k + 1 }
theorem Fit.put {S : Sv} (h : Fit S) (q : Nat) (x : List UInt8) : Fit (S.put q x) := ⟨h.gone, h.live, h.wt, h.head, h.lst, h.cnt⟩
theorem Fit.put_tell {S : Sv} (q : Nat) (x : List UInt8) (j : Nat) : (S.put q x).tell j = if j = q then x else S.tell j := by
  unfold Sv.tell Sv.put
  simp only [wrote]
  by_cases h : j = q
  · subst h; simp
  · rw [if_neg h, if_neg (by omega)]
theorem secW {k : Nat} {z : Int} (hz : z = (k : Int)) (h0 : 0 < k) (hk : k ≤ 100000) : ∀ W : World, Calls Try.prog 11 #[.int .i64 z] W fun e w' => ∃ g cap, e = .returned (.slice (some ⟨g, 0, none⟩) 64 cap) ∧ Fr [] W w' ∧ W.heap.size ≤ g ∧ g < w'.heap.size ∧ w'.rangeAt g 0 (cel (wantN k)) := fun W => by
  subst hz
  unfold wantN
  rw [if_pos h0]
  exact (sector_calls W k hk).mono fun e w' ⟨g, cap, h1, h2, h3, h4, h5, _⟩ => ⟨g, cap, h1, h2, h3, h4, h5⟩
theorem mod300 (n : Int) : ∃ N : Nat, N < 300 ∧ (wrap64 (n.tmod 300 + 300)).tmod 300 = (N : Int) := by
  have h1 : n.tmod 300 < 300 := Int.tmod_lt_of_pos n (by decide)
  have h2 : (-n).tmod 300 < 300 := Int.tmod_lt_of_pos (-n) (by decide)
  rw [Int.neg_tmod] at h2
  have h3 : wrap64 (n.tmod 300 + 300) = n.tmod 300 + 300 := by simp only [wrap64]; omega
  rw [h3]
  have h4 : 0 ≤ (n.tmod 300 + 300).tmod 300 := Int.tmod_nonneg 300 (by omega)
  have h5 : (n.tmod 300 + 300).tmod 300 < 300 := Int.tmod_lt_of_pos _ (by decide)
  exact ⟨((n.tmod 300 + 300).tmod 300).toNat, by omega, by omega⟩
theorem LongAt.put {w : World} {s p l m A i : Nat} {F : Nat → Nat} {wr w3 : World} {bs : List Nat} {S : Sv} {b : Int} (hfit : Fit S) (hall : S.all = i) (hb : b ≤ 1 + 800 * (i : Int)) (hkey : ∀ j t, S.U j = some t → 0 ≤ j ∧ j < 64) (htl : ∀ q, q < 64 → S.tell q = wantN (F q)) (hbs : ∀ x ∈ bs, w.heap.size ≤ x ∧ x < wr.heap.size) (hA : A ∉ bs) (hAw : w.heap.size ≤ A) (harr : wr.heap[A]? = some (.cells (arrL F) 62 (0, 0))) (hbd : ∀ q, F q ≤ 1000) (hfr : Fr [] w wr)
    {q : Nat} (hq : q < 64) {c : Nat} (hc : c ≤ 1000) (hf3 : Fr bs wr w3) (hst : StAt w3 bs s p l m 400 400 b (S.put q (wantN c))) : LongAt w s p l m A i false (fun r => if r = q then c else F r) (w3.setCell ⟨A, q, none⟩ (.int .i64 c)) := by
  have ha3 := hf3.keep harr hA
  have hset := box_set ha3 q (.int .i64 c)
  rw [arrL_set F hq c] at hset
  have hone : Fr [A] w3 (w3.setCell ⟨A, q, none⟩ (.int .i64 c)) := (Fr.refl _ _).setCell (.inl (by simp)) _
  have hsz := hf3.size
  have hsz2 := hone.size
  refine ⟨⟨bs, _, b, hst.keep hone (by simpa using hA), hfit.put q _, hall, hb, fun j t hj => ?_, fun r hr => ?_, fun x hx => by have := hbs x hx; omega, hA, fun h => by cases h⟩, hset, fun r => by split; exact hc; exact hbd r, (hfr.trans_new hf3 (fun x hx => .inr (hbs x hx).1)).trans_new hone (fun x hx => .inr (by simp at hx; omega))⟩
  · simp only [Sv.put, wrote] at hj
    split at hj
    · omega
    · exact hkey j t hj
  · rw [Fit.put_tell]
    by_cases e : r = q
    · rw [if_pos e, if_pos e]
    · rw [if_neg e, if_neg e]; exact htl r hr
theorem dcrash_calm (w : World) (p l m n q : Nat) (b : Int) (v : Dv) (h : DvAt w p l m n q b v) (hw : v.wt = fun _ => none) (ad : Option Addr) (cap : Nat) (zs : List Int) (hz : RdI w ad cap zs) (hm : ∀ a, ad = some a → 0 < zs.length → a.block ≠ m) :
    Calls Try.prog 15 #[.pointer (some ⟨p, 0, none⟩), .bool false, .slice ad zs.length cap] w fun e w' => ∃ m', e = .returned (.tuple #[]) ∧ Fr [p, l, m] w w' ∧ (m' = m ∨ w.heap.size ≤ m') ∧ DvAt w' p l m' n q b ⟨v.c, -1, false, v.ls, fun _ => none⟩ := by
  have hint : IntsAt w ad zs.length zs := ⟨Nat.le_refl _, fun h0 => by
    cases had : ad with
    | none => have := hz.nil had; omega
    | some a =>
      obtain ⟨b0, off, rfl, hc⟩ := hz.at_ a had h0
      exact ⟨b0, off, rfl, hc⟩⟩
  refine (crash_calls w p l m n q v.c v.f v.d v.ls v.wt h.at_ false ad zs.length cap zs hint (by have := hz.le; have := hz.cb; omega) (fun h0 x hx => hm x hx h0)).mono ?_
  rintro e w' ⟨rfl, hf, m', hm', hd⟩
  refine ⟨m', rfl, hf, hm', ⟨?_, h.cb, by simp⟩⟩
  have e : (fun i : Nat => ((if false = true then without v.wt zs zs.length else among v.wt zs zs.length) (i : Int)).getD (v.ls i)) = v.ls := by
    funext i
    simp [among, hw]
  simp only at hd ⊢
  rw [e] at hd
  exact hd
theorem LongAt.weaken {w : World} {s p l m A i : Nat} {cl : Bool} {F : Nat → Nat} {wr : World} (h : LongAt w s p l m A i cl F wr) : LongAt w s p l m A i false F wr := by
  obtain ⟨⟨bs, S, b, h1, h2, h3, h4, h5, h6, h7, h8, _⟩, ha, hb, hf⟩ := h
  exact ⟨⟨bs, S, b, h1, h2, h3, h4, h5, h6, h7, h8, fun h => by cases h⟩, ha, hb, hf⟩
set_option maxRecDepth 100000 in
set_option maxHeartbeats 16000000 in
theorem long_calls (w : World) (n sz : Int) (ad : Option Addr) (cap : Nat) (zs : List Int) (hz : RdI w ad cap zs) :
    Calls Try.prog 8 #[.int .i64 n, .int .i64 sz, .slice ad zs.length cap] w fun e w' => e = .returned (.bool true) ∧ Fr [] w w' := by
  have HO := Lib.hid (lopen_calls w 400 (by omega) (by omega))
  have HZ := Lib.hid hz
  obtain ⟨N, hN, hNe⟩ := mod300 n
  obtain ⟨K, hK, hKe⟩ : ∃ K : Nat, 1 ≤ K ∧ K ≤ 32 ∧ bits .and .i64 sz 31 = (K : Int) - 1 := ⟨(sz % 32).toNat + 1, by omega, by omega, by rw [mask31]; omega⟩
  obtain ⟨hK2, hKe⟩ := hKe
  obtain ⟨i0, hi, hz0, hz1, hz2⟩ := info_parts Try.info5
  have HZ1 := Lib.hid hz1; have HI0 := Lib.hid hi; have HZ0 := Lib.hid hz0
  have HB64 : Hid (i0.bytes * 64 ≤ 281474976710656) := Lib.hid (by rw [hz2]; omega)
  clear hz0 hz1 hz2 hi
  have hw0 : IntKind.i64.wrap ((K : Int) - 1 + 1) = (K : Int) := by rw [IntWalk.i64_in _ (by omega)]; omega
  clear hz
  go_enter Try.func8, Try.ntmps8
  go_wp2_with fail
  refine HO.out.mono ?_
  rintro e w1 ⟨p, l, m, s, bs, c, rfl, hf1, hbs, hst⟩
  have HST := Lib.hid hst; have HF1 := Lib.hid hf1; have HBS := Lib.hid hbs
  clear hst hf1 hbs HO
  go_wp2_with fail
  obtain ⟨A, hA⟩ : ∃ A, w1.heap.size = A := ⟨_, rfl⟩
  have harr := heap_alloc_new w1 (.cells (arrL fun _ => 0) 62)
  have hfa : Fr [] w1 (w1.alloc (.cells (arrL fun _ => 0) 62)) := (Fr.refl [] w1).alloc _
  rw [show arrL (fun _ => 0) = #[.int .i64 0, .int .i64 0, .int .i64 0, .int .i64 0, .int .i64 0, .int .i64 0, .int .i64 0, .int .i64 0, .int .i64 0, .int .i64 0, .int .i64 0, .int .i64 0, .int .i64 0, .int .i64 0, .int .i64 0, .int .i64 0, .int .i64 0, .int .i64 0, .int .i64 0, .int .i64 0, .int .i64 0, .int .i64 0, .int .i64 0, .int .i64 0, .int .i64 0, .int .i64 0, .int .i64 0, .int .i64 0, .int .i64 0, .int .i64 0, .int .i64 0, .int .i64 0, .int .i64 0, .int .i64 0, .int .i64 0, .int .i64 0, .int .i64 0, .int .i64 0, .int .i64 0, .int .i64 0, .int .i64 0, .int .i64 0, .int .i64 0, .int .i64 0, .int .i64 0, .int .i64 0, .int .i64 0, .int .i64 0, .int .i64 0, .int .i64 0, .int .i64 0, .int .i64 0, .int .i64 0, .int .i64 0, .int .i64 0, .int .i64 0, .int .i64 0, .int .i64 0, .int .i64 0, .int .i64 0, .int .i64 0, .int .i64 0, .int .i64 0, .int .i64 0] from rfl] at harr hfa
  rw [hA] at harr ⊢
  generalize w1.alloc _ = W0 at *
  have hsz1 := HF1.out.size
  have hszA := hfa.size
  have hl0 : LongAt w s p l m A 0 true (fun _ => 0) W0 := by
    refine ⟨⟨bs, _, 1, HST.out.keep hfa (by simp), fit0 c, rfl, by omega, fun j t h => (by cases h), fun q hq => ?_, fun x hx => by have := HBS.out x hx; omega, fun h => by have := HBS.out A h; omega, fun _ => rfl⟩, ?_, fun _ => by omega, HF1.out.trans hfa⟩
    · rw [(fit0 c).tell_ls rfl rfl]; rfl
    · exact harr
  have HL0 := Lib.hid hl0
  have hAw : w.heap.size ≤ A := by omega
  clear hl0 harr hfa HST HF1 HBS hsz1 hszA hA
  go_loopw [10] (fun v10 wr => ∃ (i : Nat) (F : Nat → Nat), i ≤ N ∧ v10 = .int .i64 i ∧ LongAt w s p l m A i true F wr) (fun v10 _ => N - (intOf v10).toNat)
  case atStart => exact ⟨0, _, by omega, rfl, HL0.out⟩
  case round =>
    clear HL0
    rename World => wr
    obtain ⟨i, F, hi, rfl, hla⟩ := hrel
    have hw1 : IntKind.i64.wrap ((i : Int) + 1) = (i : Int) + 1 := IntWalk.i64_in _ (by omega)
    have hw2 : IntKind.i64.wrap ((i : Int) * 7) = (i : Int) * 7 := IntWalk.i64_in _ (by omega)
    have HLA := Lib.hid hla
    clear hla
    by_cases hlt : i < N
    · have hl1 : (i : Int) < (N : Int) := by omega
      go_wp2_with fail
      go_loopw [11] (fun v11 wr => ∃ (k : Nat) (F : Nat → Nat), k ≤ K ∧ v11 = .int .i64 k ∧ LongAt w s p l m A i false F wr) (fun v11 _ => K - (intOf v11).toNat)
      case atStart => exact ⟨0, F, by omega, rfl, HLA.out.weaken⟩
      case round =>
        clear HLA
        rename World => wr2
        obtain ⟨k, F, hk, rfl, hla⟩ := hrel
        have hw3 : IntKind.i64.wrap ((k : Int) + 1) = (k : Int) + 1 := IntWalk.i64_in _ (by omega)
        obtain ⟨⟨bs, S, b, hst, hfit, hall, hb, hkey, htl, hbs, hAb, _⟩, harr, hbd, hfr⟩ := hla
        by_cases hlk : k < K
        · have hl2 : (k : Int) < (K : Int) := by omega
          have hw4 : IntKind.i64.wrap ((i : Int) * 7 + (k : Int)) = (i : Int) * 7 + (k : Int) := IntWalk.i64_in _ (by omega)
          have hw5 : IntKind.i64.wrap ((i : Int) + (k : Int)) = (i : Int) + (k : Int) := IntWalk.i64_in _ (by omega)
          have hw6 : IntKind.i64.wrap ((i : Int) + (k : Int) + 1) = (i : Int) + (k : Int) + 1 := IntWalk.i64_in _ (by omega)
          obtain ⟨q, hq, hmq⟩ : ∃ q : Nat, q < 64 ∧ bits .and .i64 ((i : Int) * 7 + (k : Int)) 63 = (q : Int) := ⟨(i * 7 + k) % 64, by omega, by rw [mask63]; omega⟩
          have hq0 : (0 : Int) ≤ (q : Int) := by omega
          have hq1 : (q : Int) < 64 := by omega
          have HSEC := Lib.hid (secW (k := i + k + 1) (z := (i : Int) + (k : Int) + 1) (by omega) (by omega) (by omega))
          have hk64 := key64 hst.card hkey
          have HS := Lib.hid hst; have HBS := Lib.hid hbs; have HAR := Lib.hid harr; have HFR := Lib.hid hfr; have HFIT := Lib.hid hfit; have HKEY := Lib.hid hkey; have HTL := Lib.hid htl; have HBD := Lib.hid hbd; have HALL := Lib.hid hall; have HAB := Lib.hid hAb
          clear hst hbs harr hfr hfit hkey htl hbd hall hAb
          go_wp2_with fail
          refine (HSEC.out _).mono ?_
          rintro e w2 ⟨g, cap2, rfl, hf2, hg1, hg2, hr2⟩
          have hW := st_write (HS.out.keep hf2 (by simp)) HFIT.out.gone HFIT.out.live.d q (by omega) g 0 cap2 _ (wantN_length (i + k + 1)) hr2 (fun hx => by have := (HBS.out _ hx).2; omega) (.inr (by omega))
          have HW := Lib.hid hW; have HF2 := Lib.hid hf2
          clear hW hr2 hf2
          go_wp2_with fail
          refine HW.out.mono ?_
          rintro e w3 ⟨rfl, hf3, hst3⟩
          have hsz2 := HF2.out.size
          have ha2 := HF2.out.keep HAR.out (by simp)
          have ha3 := hf3.keep ha2 HAB.out
          have hnx := LongAt.put HFIT.out HALL.out hb HKEY.out HTL.out (fun x hx => by have := HBS.out x hx; omega) HAB.out hAw ha2 HBD.out (HFR.out.trans HF2.out) hq (c := i + k + 1) (by omega) hf3 hst3
          have hcq : w3.cell? ⟨A, q, none⟩ = some (.int .i64 (F q)) := (box_cell ha3 q).trans (arrL_get F hq)
          have hfq := box_free ha3 q
          rw [show ((i + k + 1 : Nat) : Int) = (i : Int) + (k : Int) + 1 by omega] at hnx
          have HN := Lib.hid hnx
          clear hnx ha2 ha3 hf3 hst3 HW HS
          go_wp2_with fail
          go_roundw
          case rel => exact ⟨k + 1, _, by omega, by go_num, HN.out⟩
          case measure => simp [intOf]; omega
        · obtain rfl : k = K := by omega
          have HC := Lib.hid (fit_commit hst hfit (by omega) (by omega))
          have HCD := Lib.hid hst.card
          have HBS := Lib.hid hbs; have HAR := Lib.hid harr; have HFR := Lib.hid hfr; have HFIT := Lib.hid hfit; have HTL := Lib.hid htl; have HBD := Lib.hid hbd; have HALL := Lib.hid hall; have HAB := Lib.hid hAb
          clear hst hbs harr hfr hfit hkey htl hbd hall hAb
          go_wp2_with fail
          refine HC.out.mono ?_
          rintro e w3 ⟨bs3, S1, rfl, hf3, hg3, hs1, hst3⟩
          have hco := committed HFIT.out HCD.out hs1
          obtain ⟨bs4, htr, hst4⟩ := hst3.trim
          have hszr := HFR.out.size
          have hlA := lt_of_heap HAR.out
          have hnx : LongAt w s p l m A (i + 1) true F w3 := by
            refine ⟨⟨bs4, _, _, hst4, hco.fit, by rw [hco.all, HALL.out]; omega, by omega, fun j t h => (by rw [hco.und] at h; cases h), fun q hq => (hco.tell q).trans (HTL.out q hq), fun x hx => ?_, fun h => ?_, fun _ => hco.und⟩, hf3.keep HAR.out HAB.out, HBD.out, HFR.out.trans_new hf3 (fun x hx => .inr (HBS.out x hx).1)⟩
            · have h1 := htr x hx
              rcases hg3 x h1.1 with h | h
              · exact ⟨(HBS.out x h).1, h1.2⟩
              · exact ⟨by omega, h1.2⟩
            · rcases hg3 A (htr A h).1 with h | h
              · exact HAB.out h
              · omega
          have HN := Lib.hid hnx
          clear hnx hco htr hst4 hst3 hf3 hg3 hs1 HC HCD
          go_wp2_with fail
          go_roundw
          case rel => exact ⟨i + 1, F, by omega, by go_num, HN.out⟩
          case measure => simp [intOf]; omega
    · obtain rfl : i = N := by omega
      obtain ⟨⟨bs, S, b, hst, hfit, hall, hb, hkey, htl, hbs, hAb, hund⟩, harr, hbd, hfr⟩ := HLA.out
      have hund := hund rfl
      have HSY := Lib.hid (fit_sync hst hfit (by omega))
      have HBS := Lib.hid hbs; have HAR := Lib.hid harr; have HFR := Lib.hid hfr; have HFIT := Lib.hid hfit; have HTL := Lib.hid htl; have HAB := Lib.hid hAb; have HUN := Lib.hid hund
      clear hst hbs harr hfr hfit hkey htl hall hAb hund HLA
      go_wp2_with fail
      refine HSY.out.mono ?_
      rintro e w3 ⟨bs3, S3, rfl, hf3, hg3, hs3, hst3⟩
      have hla := lasting HFIT.out hs3
      obtain ⟨u3, wv3, ms3, B3, hl3⟩ := hst3.lies
      have hszr := HFR.out.size
      have hb3 : ∀ x ∈ bs3, w.heap.size ≤ x := fun x hx => by
        rcases hg3 x hx with h | h
        · exact (HBS.out x h).1
        · omega
      have hlA := lt_of_heap HAR.out
      have hA3 : A ∉ bs3 := fun h => by
        rcases hg3 A h with h | h
        · exact HAB.out h
        · omega
      have hpl : w.heap.size ≤ p ∧ w.heap.size ≤ l ∧ w.heap.size ≤ m := ⟨hb3 _ hl3.bs4.2.1, hb3 _ hl3.bs4.2.2.1, hb3 _ hl3.bs4.2.2.2.1⟩
      have hApl : A ≠ p ∧ A ≠ l ∧ A ≠ m := ⟨fun e => hA3 (by rw [e]; exact hl3.bs4.2.1), fun e => hA3 (by rw [e]; exact hl3.bs4.2.2.1), fun e => hA3 (by rw [e]; exact hl3.bs4.2.2.2.1)⟩
      have hF3 : Fr [] w w3 := HFR.out.trans_new hf3 (fun x hx => .inr (HBS.out x hx).1)
      have HCR := Lib.hid (dcrash_calm w3 p l m 400 400 _ S3.v hst3.dev hla.fit.wt ad cap zs (HZ.out.keep hF3) (fun a had h0 => by
        obtain ⟨b0, off, rfl, hc⟩ := HZ.out.at_ a had h0
        have := World.block_lt_of_cell? _ _ (hc 0 h0)
        simp only
        simp only at this
        omega))
      have HTL3 : Hid (∀ q, q < 64 → S3.v.ls (300 + q) = wantN (F q)) := Lib.hid (fun q hq => by
        rw [← hla.fit.tell_ls (by rw [hla.und]; exact HUN.out) hla.wts]
        exact (hla.tell q).trans (HTL.out q hq))
      have HLA3 := Lib.hid hla; have HF3 := Lib.hid hF3; have HA3 := Lib.hid (hf3.keep HAR.out HAB.out)
      clear hst3 hla hf3 hg3 hs3 hl3 hF3 HSY HBS HAR HFR HFIT HTL HUN
      go_wp2_with fail
      refine HCR.out.mono ?_
      rintro e w4 ⟨m', rfl, hf4, hm', hd4⟩
      have hop := st_open w4 p l m' 400 400 _ _ hd4 (by omega) (by omega) ⟨rfl, rfl, HLA3.out.fit.head⟩
      have hszw3 := HF3.out.size
      have hlA3 := lt_of_heap HA3.out
      have hAm : A ≠ m' := by omega
      have HOP := Lib.hid hop
      have HF4 := Lib.hid (HF3.out.trans_new hf4 (fun x hx => by simp at hx; omega)); have HA4 := Lib.hid (hf4.keep HA3.out (by simp; omega))
      clear hop hf4 hd4 HCR
      go_wp2_with fail
      refine HOP.out.mono ?_
      rintro e w5 ⟨t, bs50, rfl, hf5, hs5, hbs5, hst5⟩
      obtain ⟨bs5, htr5, hst5⟩ := hst5.trim
      have hszw4 := HF4.out.size
      have hlA4 := lt_of_heap HA4.out
      have HTL5 : Hid (∀ q, q < 64 → (Sv.new (Dv.read ⟨S3.v.c, -1, false, S3.v.ls, fun _ => none⟩ 0).2).tell q = wantN (F q)) := Lib.hid (fun q hq => by
        rw [← HTL3.out q hq]
        exact Fit.tell_ls (S := Sv.new (Dv.read ⟨S3.v.c, -1, false, S3.v.ls, fun _ => none⟩ 0).2) (Fit.new ⟨rfl, by show (-1 : Int) < 0; omega⟩ rfl HLA3.out.fit.head) rfl rfl q)
      have HB5 : Hid (∀ x ∈ bs5, w.heap.size ≤ x ∧ x < w5.heap.size) := Lib.hid (fun x hx => by have h1 := htr5 x hx; have := hbs5 x h1.1; omega)
      have HAB5 : Hid (A ∉ bs5) := Lib.hid (fun h => by have := hbs5 A (htr5 A h).1; omega)
      have HF5 := Lib.hid (HF4.out.trans_new hf5 (fun x hx => by simp at hx; omega)); have HA5 := Lib.hid (hf5.keep HA4.out (by simp; omega))
      have HST5 := Lib.hid hst5
      clear hf5 hst5 hbs5 htr5 HOP HF4 HA4
      go_wp2_with fail
      go_loopw [15] (fun v15 wr => ∃ (j : Nat) (S5 : Sv) (b5 : Int) (bs5 : List Nat), j ≤ 64 ∧ v15 = .int .i64 j ∧ StAt wr bs5 t p l m' 400 400 b5 S5 ∧ S5.gone = false ∧ S5.v.d = false ∧ (∀ q, q < 64 → S5.tell q = wantN (F q)) ∧ b5 ≤ 300000 + (j : Int) ∧ (∀ x ∈ bs5, w.heap.size ≤ x ∧ x < wr.heap.size) ∧ A ∉ bs5 ∧ wr.heap[A]? = some (.cells (arrL F) 62 (0, 0)) ∧ Fr [] w wr) (fun v15 _ => 100 - (intOf v15).toNat)
      case atStart => exact ⟨0, _, _, bs5, by omega, rfl, HST5.out, rfl, rfl, HTL5.out, by omega, HB5.out, HAB5.out, HA5.out, HF5.out⟩
      case round =>
        clear HST5 HTL5 HB5 HAB5 HA5 HF5
        rename World => wr5
        obtain ⟨j, S5, b5, bs5, hj, rfl, hst, hgo, hvd, htl, hb5, hbs5, hAb5, harr5, hfr5⟩ := hrel
        have hw7 : IntKind.i64.wrap ((j : Int) + 1) = (j : Int) + 1 := IntWalk.i64_in _ (by omega)
        by_cases hlt : j < 64
        · have hl3 : (j : Int) < 64 := by omega
          have hl4 : (0 : Int) ≤ (j : Int) := by omega
          have hR := st_read hst hgo hvd j (by omega) (by omega)
          rw [htl j hlt] at hR
          have HR := Lib.hid hR; have HTL5 := Lib.hid htl; have HB5 := Lib.hid hbs5; have HFR5 := Lib.hid hfr5; have HGO := Lib.hid hgo; have HVD := Lib.hid hvd; have HAB5 := Lib.hid hAb5; have HAR5 := Lib.hid harr5
          clear hst hR htl hbs5 hfr5 hgo hvd hAb5 harr5
          by_cases hp : 0 < F j
          · have hp2 : (0 : Int) < (F j : Int) := by omega
            go_wp2_with fail
            refine HR.out.mono ?_
            rintro e w7 ⟨x, c7, rfl, hf7, hst7, hx⟩
            obtain ⟨g7, cap7, rfl, hs7⟩ := StrB.b64 (wantN_length _) hx
            have hszr := HFR5.out.size
            have HF7 := Lib.hid (HFR5.out.trans_new hf7 (fun x hx => .inr (HB5.out x hx).1))
            have ha7 := hf7.keep HAR5.out HAB5.out
            have HST7 := Lib.hid hst7; have HS7 := Lib.hid hs7
            have hfz : Fr [] w7 (w7.alloc (.cells (cel zeros).toArray 5)) := (Fr.refl [] w7).alloc _
            have HFZ := Lib.hid hfz
            have haz := hfz.keep ha7 (by simp)
            have hcz : (w7.alloc (.cells (cel zeros).toArray 5)).cell? ⟨A, j, none⟩ = some (.int .i64 (F j)) := (box_cell haz j).trans (arrL_get F hlt)
            have HAZ := Lib.hid haz
            have HB7 : Hid (∀ x ∈ bs5, w.heap.size ≤ x ∧ x < w7.heap.size) := Lib.hid (fun x hx => by have := HB5.out x hx; have := hf7.size; omega)
            clear hf7 hst7 hx hs7 HR hfz ha7 haz
            go_wp2_with (first
              | (refine wL_make (o := ⟨some 92, .makeSlice _ _ _, _, _, _, _⟩) rfl _ _ 29 rfl 5 i0 (.int .u8 0) Try.underlying29 HI0.out HZ0.out 64 rfl rfl HB64.out (by omega) ?_; rw [HZ1.out, Nat.mul_one, show madeCells (Value.int .u8 0).cells 64 = (cel zeros).toArray from made_zeros2])
              | fail)
            refine (secW rfl (by omega) (by have := hbd j; omega) _).mono ?_
            rintro e w8 ⟨g8, cap8, rfl, hf8, _, _, hr8⟩
            have hx7 := HS7.out w8 (HFZ.out.trans hf8)
            have hx8 := StrB.range (cap := cap8) (wantN_length _) hr8 w8 (Fr.refl [] w8)
            have hsame := beq_selfB ⟨(wantN (F j)).toArray⟩
            have HF8 := Lib.hid (HFZ.out.trans hf8)
            have HA8 := Lib.hid (hf8.keep HAZ.out (by simp))
            clear hf8 hr8
            generalize wantN (F j) = T at *
            go_wp2_with fail
            go_roundw
            case rel => exact ⟨j + 1, S5.asked c7, _, bs5, by omega, by go_num, HST7.out.keep HF8.out (by simp), HGO.out, HVD.out, HTL5.out, by omega, fun x hx => by have := HB7.out x hx; have := HF8.out.size; omega, HAB5.out, HA8.out, HF7.out.trans HF8.out⟩
            case measure => simp [intOf]; omega
          · have hp2 : ¬ ((0 : Int) < (F j : Int)) := by omega
            go_wp2_with fail
            refine HR.out.mono ?_
            rintro e w7 ⟨x, c7, rfl, hf7, hst7, hx⟩
            obtain ⟨g7, cap7, rfl, hs7⟩ := StrB.b64 (wantN_length _) hx
            have hszr := HFR5.out.size
            have HF7 := Lib.hid (HFR5.out.trans_new hf7 (fun x hx => .inr (HB5.out x hx).1))
            have ha7 := hf7.keep HAR5.out HAB5.out
            have HST7 := Lib.hid hst7; have HS7 := Lib.hid hs7
            have hfz : Fr [] w7 (w7.alloc (.cells (cel zeros).toArray 5)) := (Fr.refl [] w7).alloc _
            have HFZ := Lib.hid hfz
            have haz := hfz.keep ha7 (by simp)
            have hcz : (w7.alloc (.cells (cel zeros).toArray 5)).cell? ⟨A, j, none⟩ = some (.int .i64 (F j)) := (box_cell haz j).trans (arrL_get F hlt)
            have HAZ := Lib.hid haz
            have HB7 : Hid (∀ x ∈ bs5, w.heap.size ≤ x ∧ x < w7.heap.size) := Lib.hid (fun x hx => by have := HB5.out x hx; have := hf7.size; omega)
            have hx7 := HS7.out _ hfz
            have hx8 := StrB.range (s := zeros) (n := 64) (cap := 64) rfl (rangeAt_new w7 (cel zeros) 5 w7.heap.size rfl) _ (Fr.refl [] _)
            have hwz : wantN (F j) = zeros := by unfold wantN; rw [if_neg (by omega)]
            rw [hwz] at hx7
            have hsame := beq_selfB ⟨zeros.toArray⟩
            clear hf7 hst7 hx hs7 HR hfz ha7 haz hwz
            go_wp2_with (first
              | (refine wL_make (o := ⟨some 92, .makeSlice _ _ _, _, _, _, _⟩) rfl _ _ 29 rfl 5 i0 (.int .u8 0) Try.underlying29 HI0.out HZ0.out 64 rfl rfl HB64.out (by omega) ?_; rw [HZ1.out, Nat.mul_one, show madeCells (Value.int .u8 0).cells 64 = (cel zeros).toArray from made_zeros2])
              | fail)
            go_roundw
            case rel => exact ⟨j + 1, S5.asked c7, _, bs5, by omega, by go_num, HST7.out.keep HFZ.out (by simp), HGO.out, HVD.out, HTL5.out, by omega, fun x hx => by have := HB7.out x hx; have := HFZ.out.size; omega, HAB5.out, HAZ.out, HF7.out.trans HFZ.out⟩
            case measure => simp [intOf]; omega
        · obtain rfl : j = 64 := by omega
          have HFR5 := Lib.hid hfr5
          clear hst hgo hvd htl hbs5 hfr5 harr5
          go_wp2_with fail
          refine (awake_calls _).mono ?_
          rintro e w6 ⟨rfl, hf6⟩
          have HZ6 := Lib.hid (HFR5.out.trans hf6)
          clear hf6
          go_wp2_with fail
          go_ret
          exact ⟨rfl, HZ6.out⟩
end Go.Proofs.Ytnnppihkgfohdaa
