/-
  alloc: the statements' maps; awake; AllocBounds.
-/
import Derived.Test.YtoifpbifipgpkaaAlA
namespace Go.Proofs.Ytoifpbifipgpkaa
open Go.RowKit Go.MapKept
theorem of_wf64 {z : Int} (h : (Lit.int .i64 z).wf = true) : -9223372036854775808 ≤ z ∧ z ≤ 9223372036854775807 := by
  simp [Lit.wf, IntKind.min, IntKind.max, IntKind.signed, IntKind.bits] at h
  omega
theorem room400 : roomI (400 : Nat) = 100 := by decide
theorem told0 (c : Int) (at' n : Nat) : MapTold (Sv.new (v0 c)) at' n (fun _ => false) := fun j _ => by
  rw [secOf_zero]; rfl
/-- The statements' map. -/
theorem made_calls (w : World) (at' n : Nat) (h1 : 1 ≤ n) (h2 : n ≤ 8192) (h3 : at' + (n - 1) / 512 + 1 ≤ 100) :
    Calls Try.prog 30 #[.int .i64 at', .int .i64 n] w fun e w' => ∃ s p l m h, e = .returned (.tuple #[.pointer (some ⟨s, 0, none⟩), .pointer (some ⟨h, 0, none⟩)]) ∧ AlAt w s p l m h at' n [] 1 (fun _ => false) (fun _ => false) 0 w' := by
  have HO := Lib.hid (lopen_calls w 400 (by omega) (by omega))
  have hok : newOk 100 (at' : Int) (n : Int) = true := by
    have : secI (n : Int) = ((n : Int) - 1) / 512 + 1 := by unfold secI; rw [if_neg (by omega)]
    simp only [newOk, Bool.and_eq_true, decide_eq_true_eq]
    omega
  go_enter Try.func30, Try.ntmps30
  go_wp2_with fail
  refine HO.out.mono ?_
  rintro e w1 ⟨p, l, m, s, bs, c, rfl, hf1, hbs, hst⟩
  have hsz := st_size hst
  rw [room400] at hsz
  have HN := Lib.hid (new_calls w1 s 100 (by omega) hsz (at' : Int) (n : Int) (by omega))
  have HF := Lib.hid hf1; have HB := Lib.hid hbs; have HS := Lib.hid hst; have HOK := Lib.hid hok
  clear hf1 hbs hst hsz hok HO
  go_wp2_with fail
  refine HN.out.mono ?_
  rintro e w2 ⟨hf2, he⟩
  rw [if_pos HOK.out] at he
  obtain ⟨h, rfl, hh1, hh2, hbox⟩ := he
  have HF2 := Lib.hid hf2; have HBX := Lib.hid hbox
  clear hf2 hbox HN
  go_wp2_with fail
  go_ret2
  have hsz := HF.out.size
  refine ⟨s, p, l, m, h, rfl, ⟨⟨bs, _, _, HS.out.keep HF2.out (by simp), fit0 c, rfl, fun hx => by have := HB.out h hx; omega, fun x hx => ⟨(HB.out x hx).1, by have := (HB.out x hx).2; have := HF2.out.size; omega⟩, told0 c at' n, told0 c at' n, fun i hi => (by cases hi), (by simp), by omega⟩, (by simp), HBX.out, by omega, HF.out.trans HF2.out⟩⟩
theorem done_x {n : Nat} {f f' : Nat → Bool} {e : Ending} (h : TakeDone n f e f') (x : Nat) (hx : x < n) (hlt : ∀ y, y < x → f y = true) (hx0 : f x = false) : e = .returned (.tuple #[.int .i64 x, .int .i64 0]) ∧ f' = flip f x := by
  rcases h with ⟨y, hy, hyl, hy0, rfl, rfl⟩ | ⟨hall, _, _⟩
  · have : y = x := by
      rcases Nat.lt_trichotomy y x with h | h | h
      · rw [hlt y h] at hy0; cases hy0
      · exact h
      · rw [hyl x h] at hx0; cases hx0
    subst this
    exact ⟨rfl, rfl⟩
  · rw [hall x hx] at hx0; cases hx0
theorem give_x {n : Nat} {f f' : Nat → Bool} {e : Ending} {i : Int} (h : GiveDone n f i e f') (x : Nat) (hi : i = x) (hx : x < n) (hx0 : f x = true) : e = .returned (.int .i64 0) ∧ f' = flip f x := by
  rcases h with ⟨y, hy, hyl, hy0, rfl, rfl⟩ | ⟨hall, _, _⟩
  · obtain rfl : y = x := by omega
    exact ⟨rfl, rfl⟩
  · rw [hall x hi hx] at hx0; cases hx0
set_option maxHeartbeats 1000000 in
theorem awake5_calls (w : World) : Calls Try.prog 34 #[] w fun e w' => e = .returned (.bool true) ∧ Fr [] w w' := by
  have HM := Lib.hid (made_calls w 3 20 (by omega) (by omega) (by omega))
  have HSE := Lib.hid (fun W => sectors_calls W 513 (by omega))
  have hs2 : secI 513 = 2 := by decide
  rw [hs2] at HSE
  go_enter Try.func34, Try.ntmps34
  go_wp2_with fail
  refine HM.out.mono ?_
  rintro e w1 ⟨s, p, l, m, h, rfl, hA⟩
  have HT := Lib.hid (al_take hA (by omega) (by omega) (by omega))
  clear hA HM hs2
  go_wp2_with fail
  refine HT.out.mono ?_
  rintro e w2 ⟨f2, hd, hA⟩
  obtain ⟨rfl, rfl⟩ := done_x hd 0 (by omega) (fun y hy => by omega) rfl
  have HT2 := Lib.hid (al_take hA (by omega) (by omega) (by omega))
  clear hA HT hd
  go_wp2_with fail
  refine HT2.out.mono ?_
  rintro e w3 ⟨f3, hd, hA⟩
  obtain ⟨rfl, rfl⟩ := done_x hd 1 (by omega) (fun y hy => (by have : y = 0 := (by omega); subst this; rfl)) rfl
  have HG := Lib.hid (al_give hA (by omega) (by omega) (by omega) 0)
  clear hA HT2 hd
  go_wp2_with fail
  refine HG.out.mono ?_
  rintro e w4 ⟨f4, hd, hA⟩
  obtain ⟨rfl, rfl⟩ := give_x hd 0 rfl (by omega) rfl
  have HT3 := Lib.hid (al_take hA (by omega) (by omega) (by omega))
  clear hA HG hd
  go_wp2_with fail
  refine HT3.out.mono ?_
  rintro e w5 ⟨f5, hd, hA⟩
  obtain ⟨rfl, rfl⟩ := done_x hd 0 (by omega) (fun y hy => by omega) rfl
  have HF := Lib.hid hA.fr
  clear hA HT3 hd
  go_wp2_with fail
  refine (HSE.out _).mono ?_
  rintro e w6 ⟨rfl, rfl⟩
  go_wp2_with fail
  go_ret
  exact ⟨rfl, HF.out⟩
set_option maxRecDepth 100000 in
set_option maxHeartbeats 4000000 in
theorem abounds_calls (w : World) (at' n : Int) (ha : -9223372036854775808 ≤ at' ∧ at' ≤ 9223372036854775807) (hn : -9223372036854775808 ≤ n ∧ n ≤ 9223372036854775807) :
    Calls Try.prog 11 #[.int .i64 at', .int .i64 n] w fun e w' => e = .returned (.bool true) ∧ Fr [] w w' := by
  have HO := Lib.hid (lopen_calls w 400 (by omega) (by omega))
  have HNN := Lib.hid (fun W => new_nil W at' n)
  have HS0 := Lib.hid (fun W => sectors_calls W 0 (by omega))
  have hs0 : secI 0 = 0 := by decide
  rw [hs0] at HS0
  clear hs0
  by_cases h1 : 1 ≤ n ∧ n ≤ 8192
  · have hsec : secI n = (n - 1) / 512 + 1 := by unfold secI; rw [if_neg (by omega)]
    have HSN := Lib.hid (fun W => sectors_calls W n hn)
    rw [hsec] at HSN
    have hw1 : IntKind.i64.wrap (n - 1) = n - 1 := IntWalk.i64_in _ (by omega)
    obtain ⟨Z, hZ⟩ : ∃ Z : Nat, (n - 1) / 512 + 1 = (Z : Int) := ⟨((n - 1) / 512 + 1).toNat, by omega⟩
    have hZ2 : 1 ≤ Z ∧ Z ≤ 16 := by omega
    rw [hZ] at HSN
    have hw2 : IntKind.i64.wrap ((n - 1) / 512 + 1) = (Z : Int) := by rw [hZ]; exact IntWalk.i64_in _ (by omega)
    have hn1 : (0 : Int) ≤ n - 1 := by omega
    have g1 : 1 ≤ n := h1.1
    have g2 : n ≤ 8192 := h1.2
    by_cases c1 : 0 ≤ at'
    · by_cases c2 : at' ≤ 100
      · have hw3 : IntKind.i64.wrap (100 - at') = 100 - at' := IntWalk.i64_in _ (by omega)
        by_cases c3 : (Z : Int) ≤ 100 - at'
        · have z0 : (0 : Int) < (Z : Int) := by omega
          have hok : newOk 100 at' n = true := by
            simp only [newOk, Bool.and_eq_true, decide_eq_true_eq, hsec, hZ]; omega
          go_enter Try.func11, Try.ntmps11
          go_wp2_with fail
          refine HO.out.mono ?_
          rintro e w1 ⟨p, l, m, s, bs, c, rfl, hf1, hbs, hst⟩
          have hsz := st_size hst
          rw [room400] at hsz
          have HN := Lib.hid (new_calls w1 s 100 (by omega) hsz at' n hn)
          have HF := Lib.hid hf1; have HOK := Lib.hid hok
          clear hf1 hbs hst hsz hok HO
          go_wp2_with fail
          refine HN.out.mono ?_
          rintro e w2 ⟨hf2, he⟩
          rw [if_pos HOK.out] at he
          obtain ⟨h, rfl, hh1, hh2, hbox⟩ := he
          have HF2 := Lib.hid (HF.out.trans hf2)
          clear hf2 hbox HN
          go_wp2_with fail
          refine (HSN.out _).mono ?_
          rintro e w3 ⟨rfl, rfl⟩
          go_wp2_with fail
          refine (HNN.out _).mono ?_
          rintro e w4 ⟨rfl, rfl⟩
          go_wp2_with fail
          refine (HS0.out _).mono ?_
          rintro e w5 ⟨rfl, rfl⟩
          go_wp2_with fail
          refine (awake5_calls _).mono ?_
          rintro e w6 ⟨rfl, hf6⟩
          have HF6 := Lib.hid (HF2.out.trans hf6)
          clear hf6
          go_wp2_with fail
          go_ret
          exact ⟨rfl, HF6.out⟩
        · have z0 : (0 : Int) < (Z : Int) := by omega
          have z3 : decide ((Z : Int) ≤ 100 - at') = false := decide_eq_false c3
          have hok : newOk 100 at' n = false := by
            rw [← Bool.not_eq_true]; intro hh; simp only [newOk, Bool.and_eq_true, decide_eq_true_eq, hsec, hZ] at hh; omega
          go_enter Try.func11, Try.ntmps11
          go_wp2_with fail
          refine HO.out.mono ?_
          rintro e w1 ⟨p, l, m, s, bs, c, rfl, hf1, hbs, hst⟩
          have hsz := st_size hst
          rw [room400] at hsz
          have HN := Lib.hid (new_calls w1 s 100 (by omega) hsz at' n hn)
          have HF := Lib.hid hf1; have HOK := Lib.hid hok
          clear hf1 hbs hst hsz hok HO
          go_wp2_with fail
          refine HN.out.mono ?_
          rintro e w2 ⟨hf2, he⟩
          rw [if_neg (by rw [HOK.out]; decide)] at he
          subst he
          have HF2 := Lib.hid (HF.out.trans hf2)
          clear hf2 HN
          go_wp2_with fail
          refine (HSN.out _).mono ?_
          rintro e w3 ⟨rfl, rfl⟩
          go_wp2_with fail
          refine (HNN.out _).mono ?_
          rintro e w4 ⟨rfl, rfl⟩
          go_wp2_with fail
          refine (HS0.out _).mono ?_
          rintro e w5 ⟨rfl, rfl⟩
          go_wp2_with fail
          refine (awake5_calls _).mono ?_
          rintro e w6 ⟨rfl, hf6⟩
          have HF6 := Lib.hid (HF2.out.trans hf6)
          clear hf6
          go_wp2_with fail
          go_ret
          exact ⟨rfl, HF6.out⟩
      · have z0 : (0 : Int) < (Z : Int) := by omega
        have hok : newOk 100 at' n = false := by
          rw [← Bool.not_eq_true]; intro hh; simp only [newOk, Bool.and_eq_true, decide_eq_true_eq, hsec, hZ] at hh; omega
        go_enter Try.func11, Try.ntmps11
        go_wp2_with fail
        refine HO.out.mono ?_
        rintro e w1 ⟨p, l, m, s, bs, c, rfl, hf1, hbs, hst⟩
        have hsz := st_size hst
        rw [room400] at hsz
        have HN := Lib.hid (new_calls w1 s 100 (by omega) hsz at' n hn)
        have HF := Lib.hid hf1; have HOK := Lib.hid hok
        clear hf1 hbs hst hsz hok HO
        go_wp2_with fail
        refine HN.out.mono ?_
        rintro e w2 ⟨hf2, he⟩
        rw [if_neg (by rw [HOK.out]; decide)] at he
        subst he
        have HF2 := Lib.hid (HF.out.trans hf2)
        clear hf2 HN
        go_wp2_with fail
        refine (HSN.out _).mono ?_
        rintro e w3 ⟨rfl, rfl⟩
        go_wp2_with fail
        refine (HNN.out _).mono ?_
        rintro e w4 ⟨rfl, rfl⟩
        go_wp2_with fail
        refine (HS0.out _).mono ?_
        rintro e w5 ⟨rfl, rfl⟩
        go_wp2_with fail
        refine (awake5_calls _).mono ?_
        rintro e w6 ⟨rfl, hf6⟩
        have HF6 := Lib.hid (HF2.out.trans hf6)
        clear hf6
        go_wp2_with fail
        go_ret
        exact ⟨rfl, HF6.out⟩
    · have z0 : (0 : Int) < (Z : Int) := by omega
      have hok : newOk 100 at' n = false := by
        rw [← Bool.not_eq_true]; intro hh; simp only [newOk, Bool.and_eq_true, decide_eq_true_eq, hsec, hZ] at hh; omega
      go_enter Try.func11, Try.ntmps11
      go_wp2_with fail
      refine HO.out.mono ?_
      rintro e w1 ⟨p, l, m, s, bs, c, rfl, hf1, hbs, hst⟩
      have hsz := st_size hst
      rw [room400] at hsz
      have HN := Lib.hid (new_calls w1 s 100 (by omega) hsz at' n hn)
      have HF := Lib.hid hf1; have HOK := Lib.hid hok
      clear hf1 hbs hst hsz hok HO
      go_wp2_with fail
      refine HN.out.mono ?_
      rintro e w2 ⟨hf2, he⟩
      rw [if_neg (by rw [HOK.out]; decide)] at he
      subst he
      have HF2 := Lib.hid (HF.out.trans hf2)
      clear hf2 HN
      go_wp2_with fail
      refine (HSN.out _).mono ?_
      rintro e w3 ⟨rfl, rfl⟩
      go_wp2_with fail
      refine (HNN.out _).mono ?_
      rintro e w4 ⟨rfl, rfl⟩
      go_wp2_with fail
      refine (HS0.out _).mono ?_
      rintro e w5 ⟨rfl, rfl⟩
      go_wp2_with fail
      refine (awake5_calls _).mono ?_
      rintro e w6 ⟨rfl, hf6⟩
      have HF6 := Lib.hid (HF2.out.trans hf6)
      clear hf6
      go_wp2_with fail
      go_ret
      exact ⟨rfl, HF6.out⟩
  · by_cases g1 : 1 ≤ n
    · have g2 : ¬ n ≤ 8192 := by omega
      have hok : newOk 100 at' n = false := by
        rw [← Bool.not_eq_true]; intro hh; simp only [newOk, Bool.and_eq_true, decide_eq_true_eq] at hh; omega
      go_enter Try.func11, Try.ntmps11
      go_wp2_with fail
      refine HO.out.mono ?_
      rintro e w1 ⟨p, l, m, s, bs, c, rfl, hf1, hbs, hst⟩
      have hsz := st_size hst
      rw [room400] at hsz
      have HN := Lib.hid (new_calls w1 s 100 (by omega) hsz at' n hn)
      have HF := Lib.hid hf1; have HOK := Lib.hid hok
      clear hf1 hbs hst hsz hok HO
      go_wp2_with fail
      refine HN.out.mono ?_
      rintro e w2 ⟨hf2, he⟩
      rw [if_neg (by rw [HOK.out]; decide)] at he
      subst he
      have HF2 := Lib.hid (HF.out.trans hf2)
      clear hf2 HN
      go_wp2_with fail
      refine (HNN.out _).mono ?_
      rintro e w4 ⟨rfl, rfl⟩
      go_wp2_with fail
      refine (HS0.out _).mono ?_
      rintro e w5 ⟨rfl, rfl⟩
      go_wp2_with fail
      refine (awake5_calls _).mono ?_
      rintro e w6 ⟨rfl, hf6⟩
      have HF6 := Lib.hid (HF2.out.trans hf6)
      clear hf6
      go_wp2_with fail
      go_ret
      exact ⟨rfl, HF6.out⟩
    · have g2 : ¬ 1 ≤ n := g1
      have hok : newOk 100 at' n = false := by
        rw [← Bool.not_eq_true]; intro hh; simp only [newOk, Bool.and_eq_true, decide_eq_true_eq] at hh; omega
      go_enter Try.func11, Try.ntmps11
      go_wp2_with fail
      refine HO.out.mono ?_
      rintro e w1 ⟨p, l, m, s, bs, c, rfl, hf1, hbs, hst⟩
      have hsz := st_size hst
      rw [room400] at hsz
      have HN := Lib.hid (new_calls w1 s 100 (by omega) hsz at' n hn)
      have HF := Lib.hid hf1; have HOK := Lib.hid hok
      clear hf1 hbs hst hsz hok HO
      go_wp2_with fail
      refine HN.out.mono ?_
      rintro e w2 ⟨hf2, he⟩
      rw [if_neg (by rw [HOK.out]; decide)] at he
      subst he
      have HF2 := Lib.hid (HF.out.trans hf2)
      clear hf2 HN
      go_wp2_with fail
      refine (HNN.out _).mono ?_
      rintro e w4 ⟨rfl, rfl⟩
      go_wp2_with fail
      refine (HS0.out _).mono ?_
      rintro e w5 ⟨rfl, rfl⟩
      go_wp2_with fail
      refine (awake5_calls _).mono ?_
      rintro e w6 ⟨rfl, hf6⟩
      have HF6 := Lib.hid (HF2.out.trans hf6)
      clear hf6
      go_wp2_with fail
      go_ret
      exact ⟨rfl, HF6.out⟩
end Go.Proofs.Ytoifpbifipgpkaa
