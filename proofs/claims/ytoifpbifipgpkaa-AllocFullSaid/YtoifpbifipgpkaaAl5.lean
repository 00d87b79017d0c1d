/-
  alloc: Give, Taken, Count.
-/
import Derived.Test.YtoifpbifipgpkaaAl4
namespace Go.Proofs.Ytoifpbifipgpkaa
open Go.RowKit Go.MapKept
def GivePost (w : World) (bs : List Nat) (s p l m nd q : Nat) (b : Int) (S : Sv) (at' n : Nat) (f : Nat → Bool) (i : Int) (e : Ending) (w' : World) : Prop :=
  Fr bs w w' ∧ ∃ c : Int, (∃ x : Nat, i = x ∧ x < n ∧ f x = true ∧ e = .returned (.int .i64 0) ∧ StAt w' bs s p l m nd q (b + 1) ((S.asked c).put' (at' + x / 512) (secOf (flip f x) (x / 512)))) ∨
    ((∀ x : Nat, i = x → x < n → f x = false) ∧ e = .returned (.int .i64 1) ∧ StAt w' bs s p l m nd q (b + 1) (S.asked c))
def isIn (i : Int) (n : Nat) : Bool := decide (0 ≤ i) && decide (i < n)
def TakenPost (w : World) (bs : List Nat) (s p l m nd q : Nat) (b : Int) (S : Sv) (n : Nat) (f : Nat → Bool) (i : Int) (e : Ending) (w' : World) : Prop :=
  Fr bs w w' ∧ ∃ c : Int, StAt w' bs s p l m nd q (b + 1) (S.asked c) ∧ e = .returned (.tuple #[.bool (isIn i n && f i.toNat), .int .i64 (if isIn i n = true then 0 else 1)])
/-- How many of the first are taken. -/
def cntB (f : Nat → Bool) : Nat → Nat | 0 => 0 | k + 1 => cntB f k + (f k).toNat
theorem cntB_le (f : Nat → Bool) : ∀ k, cntB f k ≤ k
  | 0 => Nat.le_refl _
  | k + 1 => by
    have := cntB_le f k
    have : (f k).toNat ≤ 1 := Bool.toNat_le _
    simp only [cntB]; omega
def CountPost (w : World) (bs : List Nat) (s p l m nd q : Nat) (b : Int) (S : Sv) (n : Nat) (f : Nat → Bool) (e : Ending) (w' : World) : Prop :=
  Fr bs w w' ∧ ∃ c : Int, StAt w' bs s p l m nd q (b + 17) (S.asked c) ∧ e = .returned (.tuple #[.int .i64 (cntB f n), .int .i64 0])
section
variable {w : World} {bs : List Nat} {s p l m nd q : Nat} {b : Int} {S : Sv} {h : Nat} {at' n : Nat}
set_option maxRecDepth 100000 in
set_option maxHeartbeats 2000000 in
theorem give_calls (hst : StAt w bs s p l m nd q b S) (hg : S.gone = false) (hv : S.v.d = false) (hm : MapBox w h s at' n) (hh : h ∉ bs) (hbl : ∀ x ∈ bs, x < w.heap.size) (hn : n ≤ 8192) (hi : at' + (n - 1) / 512 + 300 < nd) (hb : b < 8000000000000000000)
    (f : Nat → Bool) (hf : MapTold S at' n f) (hroom : ∀ j, 512 * j < n → (S.U ((at' + j : Nat) : Int)).isSome = true ∨ S.k < 128) (i : Int) :
    Calls Try.prog 32 #[.pointer (some ⟨h, 0, none⟩), .int .i64 i] w (GivePost w bs s p l m nd q b S at' n f i) := by
  by_cases hin : 0 ≤ i ∧ i < n
  · obtain ⟨x, rfl⟩ : ∃ x : Nat, i = x := ⟨i.toNat, by omega⟩
    have hx : x < n := by omega
    have HRD := Lib.hid (areadOf_calls hst hg hv hm hh x hx (by omega) (by omega) (by omega))
    have HM := Lib.hid hm; have HBL := Lib.hid hbl; have HR := Lib.hid (hroom (x / 512) (by omega)); have HT := Lib.hid (hf (x / 512) (by omega))
    have hlth := lt_of_heap hm
    clear hm hbl hroom hf hst
    go_enter Try.func32, Try.ntmps32
    go_wp2_with fail
    refine HRD.out.mono ?_
    rintro e w1 ⟨y, c1, rfl, hf1, hst1, hx1⟩
    obtain ⟨g, cap, rfl, hg1, hg2, hr1, cur, t, hb1, ht1⟩ := hx1.range
    rw [HT.out] at hr1 ht1
    have hm1 := hf1.keep HM.out hh
    have hgs : g ∉ bs := fun hx => by have := HBL.out g hx; omega
    have hbit := bit_calls w1 g cap f x (by omega) hr1
    obtain ⟨fx, hfx⟩ : ∃ fx, f x = fx := ⟨_, rfl⟩
    rw [hfx] at hbit
    have HB := Lib.hid hbit; have HFX := Lib.hid hfx
    have HTU := Lib.hid (turn_calls hst1 hg hv hm1 hh x (by omega) (by omega) g cap cur t f hb1 ht1 hgs (by omega) HR.out)
    have HF1 := Lib.hid hf1; have HST1 := Lib.hid hst1
    clear hf1 hst1 hx1 hr1 hb1 ht1 hm1 HRD hbit hfx
    cases fx with
    | false =>
      go_wp2_with fail
      refine HB.out.mono ?_
      rintro e w2 ⟨rfl, rfl⟩
      go_wp2_with fail
      go_ret
      exact ⟨HF1.out, c1, .inr ⟨fun y hy _ => by obtain rfl : x = y := by omega
                                                 exact HFX.out, rfl, HST1.out⟩⟩
    | true =>
      go_wp2_with fail
      refine HB.out.mono ?_
      rintro e w2 ⟨rfl, rfl⟩
      go_wp2_with fail
      refine HTU.out.mono ?_
      rintro e w3 ⟨rfl, hf3, hst3⟩
      have HF3 : Hid (Fr bs w w3) := Lib.hid (HF1.out.trans_new hf3 (fun z hz => by
        rcases List.mem_cons.1 hz with rfl | hz
        · exact .inr (by omega)
        · exact .inl hz))
      have HS3 := Lib.hid hst3
      clear hf3 hst3 HTU
      go_wp2_with fail
      go_ret
      exact ⟨HF3.out, c1, .inl ⟨x, rfl, hx, HFX.out, rfl, HS3.out⟩⟩
  · have HRD := Lib.hid (areadOf_none hm i (by omega))
    have HST := Lib.hid hst
    clear hst hm hbl hroom hf
    go_enter Try.func32, Try.ntmps32
    go_wp2_with fail
    refine HRD.out.mono ?_
    rintro e w1 ⟨rfl, rfl⟩
    go_wp2_with fail
    go_ret
    exact ⟨Fr.refl _ _, S.v.c, .inr ⟨fun x hx hxn => by omega, rfl, by rw [asked_same]; exact HST.out.more (by omega)⟩⟩
set_option maxRecDepth 100000 in
set_option maxHeartbeats 2000000 in
theorem taken_calls (hst : StAt w bs s p l m nd q b S) (hg : S.gone = false) (hv : S.v.d = false) (hm : MapBox w h s at' n) (hh : h ∉ bs) (hn : n ≤ 8192) (hi : at' + (n - 1) / 512 + 300 < nd) (hb : b < 8000000000000000000)
    (f : Nat → Bool) (hf : MapTold S at' n f) (i : Int) :
    Calls Try.prog 35 #[.pointer (some ⟨h, 0, none⟩), .int .i64 i] w (TakenPost w bs s p l m nd q b S n f i) := by
  by_cases hin : 0 ≤ i ∧ i < n
  · obtain ⟨x, rfl⟩ : ∃ x : Nat, i = x := ⟨i.toNat, by omega⟩
    have hx : x < n := by omega
    have hisin : isIn (x : Int) n = true := by simp [isIn]; omega
    have HRD := Lib.hid (areadOf_calls hst hg hv hm hh x hx (by omega) (by omega) (by omega))
    have HT := Lib.hid (hf (x / 512) (by omega))
    have HIN := Lib.hid hisin
    clear hm hf hst hisin
    go_enter Try.func35, Try.ntmps35
    go_wp2_with fail
    refine HRD.out.mono ?_
    rintro e w1 ⟨y, c1, rfl, hf1, hst1, hx1⟩
    obtain ⟨g, cap, rfl, hg1, hg2, hr1, cur, t, hb1, ht1⟩ := hx1.range
    rw [HT.out] at hr1 ht1
    have hbit := bit_calls w1 g cap f x (by omega) hr1
    obtain ⟨fx, hfx⟩ : ∃ fx, f x = fx := ⟨_, rfl⟩
    rw [hfx] at hbit
    have HB := Lib.hid hbit; have HFX := Lib.hid hfx
    have HF1 := Lib.hid hf1; have HST1 := Lib.hid hst1
    clear hf1 hst1 hx1 hr1 hb1 ht1 HRD hbit hfx
    cases fx with
    | false =>
      go_wp2_with fail
      refine HB.out.mono ?_
      rintro e w2 ⟨rfl, rfl⟩
      go_wp2_with fail
      go_ret2
      refine ⟨HF1.out, c1, HST1.out, ?_⟩
      rw [HIN.out, Int.toNat_natCast, HFX.out]
      rfl
    | true =>
      go_wp2_with fail
      refine HB.out.mono ?_
      rintro e w2 ⟨rfl, rfl⟩
      go_wp2_with fail
      go_ret2
      refine ⟨HF1.out, c1, HST1.out, ?_⟩
      rw [HIN.out, Int.toNat_natCast, HFX.out]
      rfl
  · have HRD := Lib.hid (areadOf_none hm i (by omega))
    have hisin : isIn i n = false := by
      cases hb : isIn i n with
      | false => rfl
      | true => simp [isIn] at hb; omega
    have HST := Lib.hid hst; have HIN := Lib.hid hisin
    clear hst hm hf hisin
    go_enter Try.func35, Try.ntmps35
    go_wp2_with fail
    refine HRD.out.mono ?_
    rintro e w1 ⟨rfl, rfl⟩
    go_wp2_with fail
    go_ret2
    refine ⟨Fr.refl _ _, S.v.c, by rw [asked_same]; exact HST.out.more (by omega), ?_⟩
    rw [HIN.out]
    rfl
set_option maxRecDepth 100000 in
set_option maxHeartbeats 2000000 in
theorem count_calls (hst : StAt w bs s p l m nd q b S) (hg : S.gone = false) (hv : S.v.d = false) (hm : MapBox w h s at' n) (hh : h ∉ bs) (hn : n ≤ 8192) (hi : at' + (n - 1) / 512 + 300 < nd) (hb : b < 8000000000000000000)
    (f : Nat → Bool) (hf : MapTold S at' n f) :
    Calls Try.prog 33 #[.pointer (some ⟨h, 0, none⟩)] w (CountPost w bs s p l m nd q b S n f) := by
  have HM := Lib.hid hm; have HST := Lib.hid hst; have HT := Lib.hid hf
  clear hm hst hf
  go_enter Try.func33, Try.ntmps33
  go_wp2_with fail
  go_loopw [4, 5] (fun v4 v5 wr => ∃ (j : Nat) (c : Int), (512 * j ≤ 8704 ∧ j ≤ 17) ∧ v5 = .int .i64 ((512 * j : Nat) : Int) ∧ v4 = .int .i64 (cntB f (min n (512 * j))) ∧ Fr bs w wr ∧ StAt wr bs s p l m nd q (b + j) (S.asked c)) (fun _ v5 _ => 10000 - (intOf v5).toNat)
  case atStart => exact ⟨0, S.v.c, by omega, rfl, by simp [cntB], Fr.refl _ _, by rw [asked_same]; exact HST.out.more (by omega)⟩
  case round =>
    rename World => wr
    obtain ⟨j, c, hj, rfl, rfl, hfr, hst⟩ := hrel
    have hmr := hfr.keep HM.out hh
    have hcm := box_cell hmr
    obtain ⟨F, hF⟩ : ∃ F : Nat, 512 * j = F := ⟨_, rfl⟩
    have hw1 : IntKind.i64.wrap (((512 * j : Nat) : Int) + 512) = ((512 * (j + 1) : Nat) : Int) := by rw [show ((512 * j : Nat) : Int) + 512 = ((512 * (j + 1) : Nat) : Int) by omega]; exact IntWalk.i64_in _ (by omega)
    rw [hF] at hw1 ⊢
    by_cases hlt : F < n
    · have hlt' : (F : Int) < (n : Int) := by omega
      have hj2 : F / 512 = j := by omega
      have HRD := Lib.hid (aread_calls hst hg hv hmr hh F (by omega) (by omega) (by omega))
      have HIT := Lib.hid (fun W (hW : MapBox W h s at' n) => items_calls W h s at' n hW F (by omega) (by omega))
      rw [hj2] at HRD
      rw [show min n F = F by omega]
      have HFR := Lib.hid hfr; have HMR := Lib.hid hmr
      clear hfr hst hmr
      go_wp2_with fail
      refine HRD.out.mono ?_
      rintro e w1 ⟨x, c1, rfl, hf1, hst1, hx1⟩
      obtain ⟨g, cap, rfl, hg1, hg2, hr1, cur, t, hb1, ht1⟩ := hx1.range
      rw [asked_tell, HT.out j (by omega)] at hr1 ht1
      rw [asked_asked] at hst1
      have hm1 := hf1.keep HMR.out hh
      have HI1 := Lib.hid (HIT.out w1 hm1)
      have HB := Lib.hid (fun (y : Nat) (hy : y < 512) => by
        have h1 : secOf (fun z => f (F + z)) (y / 512) = secOf f j := by
          rw [show y / 512 = 0 by omega]
          unfold secOf
          refine List.map_congr_left fun k _ => ?_
          unfold b8
          simp only [Nat.mul_zero, Nat.zero_add, Nat.add_assoc, hF]
        exact bit_calls w1 g cap (fun z => f (F + z)) y (by omega) (by rw [h1]; exact hr1))
      have HF1 := Lib.hid (HFR.out.trans hf1); have HST1 := Lib.hid hst1
      clear hf1 hst1 hx1 hr1 hb1 ht1 hm1 HRD HIT
      go_wp2_with fail
      refine HI1.out.mono ?_
      rintro e w2 ⟨rfl, rfl⟩
      have hit : itemsI n F = ((min 512 (n - F) : Nat) : Int) := by unfold itemsI; omega
      rw [hit]
      obtain ⟨I, hI⟩ : ∃ I, min 512 (n - F) = I := ⟨_, rfl⟩
      rw [hI]
      have hI2 : I ≤ 512 ∧ F + I ≤ n ∧ (I = 512 ∨ F + I = n) := by omega
      clear hI hit HI1
      go_wp2_with fail
      go_loopw [4, 29] (fun v4 v29 wk => ∃ t : Nat, t ≤ I ∧ v29 = .int .i64 t ∧ v4 = .int .i64 (cntB f (F + t)) ∧ w1 = wk) (fun _ v29 _ => 1000 - (intOf v29).toNat)
      case atStart => exact ⟨0, by omega, rfl, rfl, rfl⟩
      case round =>
        obtain ⟨t, ht, rfl, rfl, rfl⟩ := hrel
        have hw2 : IntKind.i64.wrap ((t : Int) + 1) = (t : Int) + 1 := IntWalk.i64_in _ (by omega)
        by_cases hti : t < I
        · have hti' : (t : Int) < (I : Int) := by omega
          have HB1 := Lib.hid (HB.out t (by omega))
          have hcb := cntB_le f (F + t)
          have hone : (f (F + t)).toNat ≤ 1 := Bool.toNat_le _
          have hw3 : IntKind.i64.wrap ((cntB f (F + t) : Int) + ((f (F + t)).toNat : Int)) = ((cntB f (F + (t + 1)) : Nat) : Int) := by
            have : cntB f (F + (t + 1)) = cntB f (F + t) + (f (F + t)).toNat := rfl
            rw [this, Int.natCast_add]; exact IntWalk.i64_in _ (by omega)
          go_wp2_with fail
          refine HB1.out.mono ?_
          rintro e w2 ⟨rfl, rfl⟩
          go_wp2_with fail
          go_roundw
          case rel => exact ⟨t + 1, by omega, by go_num, rfl, trivial⟩
          case measure => simp [intOf]; omega
        · have hti' : ¬ (t : Int) < (I : Int) := by omega
          obtain rfl : t = I := by omega
          go_wp2_with fail
          go_roundw
          case rel => exact ⟨j + 1, c1, by omega, by go_num, by rw [show min n (512 * (j + 1)) = F + t by omega], HF1.out, HST1.out.more (by omega)⟩
          case measure => simp [intOf]; omega
    · have hlt' : ¬ (F : Int) < (n : Int) := by omega
      have HFR := Lib.hid hfr; have HS3 := Lib.hid hst
      rw [show min n F = n by omega]
      clear hfr hst
      go_wp2_with fail
      go_ret2
      exact ⟨HFR.out, c, HS3.out.more (by omega), rfl⟩
end
end Go.Proofs.Ytoifpbifipgpkaa
