/-
  alloc: Take, Give, Taken, Count.
-/
import Derived.Test.YtoifpbifipgpkaaAl3
namespace Go.Proofs.Ytoifpbifipgpkaa
open Go.RowKit Go.MapKept
theorem asked_same (S : Sv) : S.asked S.v.c = S := rfl
theorem asked_tell (S : Sv) (c : Int) (i : Nat) : (S.asked c).tell i = S.tell i := rfl
theorem asked_asked (S : Sv) (c c' : Int) : (S.asked c).asked c' = S.asked c' := rfl
/-- The sectors of a map of n items at at' are what f says. -/
def MapTold (S : Sv) (at' n : Nat) (f : Nat → Bool) : Prop := ∀ j, 512 * j < n → S.tell (at' + j) = secOf f j
def TakePost (w : World) (bs : List Nat) (s p l m nd q : Nat) (b : Int) (S : Sv) (at' n : Nat) (f : Nat → Bool) (e : Ending) (w' : World) : Prop :=
  Fr bs w w' ∧ ∃ c : Int, (∃ x : Nat, x < n ∧ (∀ y, y < x → f y = true) ∧ f x = false ∧ e = .returned (.tuple #[.int .i64 x, .int .i64 0]) ∧ StAt w' bs s p l m nd q (b + 17) ((S.asked c).put' (at' + x / 512) (secOf (flip f x) (x / 512)))) ∨
    ((∀ y, y < n → f y = true) ∧ e = .returned (.tuple #[.int .i64 0, .int .i64 60]) ∧ StAt w' bs s p l m nd q (b + 17) (S.asked c))
section
variable {w : World} {bs : List Nat} {s p l m nd q : Nat} {b : Int} {S : Sv} {h : Nat} {at' n : Nat}
set_option maxRecDepth 100000 in
set_option maxHeartbeats 2000000 in
theorem take_calls (hst : StAt w bs s p l m nd q b S) (hg : S.gone = false) (hv : S.v.d = false) (hm : MapBox w h s at' n) (hh : h ∉ bs) (hbl : ∀ x ∈ bs, x < w.heap.size) (hn : n ≤ 8192) (hi : at' + (n - 1) / 512 + 300 < nd) (hb : b < 8000000000000000000)
    (f : Nat → Bool) (hf : MapTold S at' n f) (hroom : ∀ j, 512 * j < n → (S.U ((at' + j : Nat) : Int)).isSome = true ∨ S.k < 128) :
    Calls Try.prog 31 #[.pointer (some ⟨h, 0, none⟩)] w (TakePost w bs s p l m nd q b S at' n f) := by
  have HM := Lib.hid hm; have HST := Lib.hid hst; have HBL := Lib.hid hbl; have HT := Lib.hid hf; have HR := Lib.hid hroom
  have hlth := lt_of_heap hm
  clear hm hst hbl hf hroom
  go_enter Try.func31, Try.ntmps31
  go_wp2_with fail
  go_loopw [4] (fun v4 wr => ∃ (j : Nat) (c : Int), (512 * j ≤ 8704 ∧ j ≤ 17) ∧ v4 = .int .i64 ((512 * j : Nat) : Int) ∧ Fr bs w wr ∧ StAt wr bs s p l m nd q (b + j) (S.asked c) ∧ ∀ y, y < 512 * j → y < n → f y = true) (fun v4 _ => 10000 - (intOf v4).toNat)
  case atStart => exact ⟨0, S.v.c, by omega, rfl, Fr.refl _ _, by rw [asked_same]; exact HST.out.more (by omega), fun y hy => by omega⟩
  case round =>
    rename World => wr
    obtain ⟨j, c, hj, rfl, hfr, hst, hall⟩ := hrel
    have hmr := hfr.keep HM.out hh
    have hcm := box_cell hmr
    have HA := Lib.hid hall
    clear hall
    obtain ⟨F, hF⟩ : ∃ F : Nat, 512 * j = F := ⟨_, rfl⟩
    have hw1 : IntKind.i64.wrap (((512 * j : Nat) : Int) + 512) = ((512 * (j + 1) : Nat) : Int) := by rw [show ((512 * j : Nat) : Int) + 512 = ((512 * (j + 1) : Nat) : Int) by omega]; exact IntWalk.i64_in _ (by omega)
    rw [hF] at hw1 ⊢
    by_cases hlt : F < n
    · have hlt' : (F : Int) < (n : Int) := by omega
      have hj2 : F / 512 = j := by omega
      have HRD := Lib.hid (aread_calls hst hg hv hmr hh F (by omega) (by omega) (by omega))
      have HIT := Lib.hid (fun W (hW : MapBox W h s at' n) => items_calls W h s at' n hW F (by omega) (by omega))
      rw [hj2] at HRD
      have HFR := Lib.hid hfr; have HMR := Lib.hid hmr
      clear hfr hst hmr
      go_wp2_with fail
      refine HRD.out.mono ?_
      rintro e w1 ⟨x, c1, rfl, hf1, hst1, hx1⟩
      obtain ⟨g, cap, rfl, hg1, hg2, hr1, cur, t, hb1, ht1⟩ := hx1.range
      rw [asked_tell, HT.out j (by omega)] at hr1 ht1
      rw [asked_asked] at hst1
      have HL := Lib.hid (least_calls w1 g cap f j (by omega) hr1)
      have hm1 := hf1.keep HMR.out hh
      have HI1 := Lib.hid (HIT.out w1 hm1)
      have hsz := HFR.out.size
      have hgs : g ∉ bs := fun hx => by have := HBL.out g hx; omega
      have HTU := Lib.hid (fun (y : Nat) (hy : y / 512 = j) (hy2 : y < n) => turn_calls hst1 hg hv hm1 hh y (by omega) (by omega) g cap cur t f hb1 (by rw [hy]; exact ht1) hgs (by omega) (by rw [hy]; exact HR.out j (by omega)))
      have HF1 := Lib.hid (HFR.out.trans hf1); have HST1 := Lib.hid hst1
      clear hf1 hst1 hx1 hr1 hb1 ht1 hm1 HRD HIT
      go_wp2_with fail
      refine HL.out.mono ?_
      rintro e w2 ⟨⟨x, rfl, hx512, hxt, hxf⟩, rfl⟩
      have HXT := Lib.hid hxt; have HXF := Lib.hid hxf
      clear hxt hxf HL
      go_wp2_with fail
      refine HI1.out.mono ?_
      rintro e w2 ⟨rfl, rfl⟩
      have hit : itemsI n F = ((min 512 (n - F) : Nat) : Int) := by unfold itemsI; omega
      rw [hit]
      obtain ⟨I, hI⟩ : ∃ I, min 512 (n - F) = I := ⟨_, rfl⟩
      rw [hI]
      have hI2 : I ≤ 512 ∧ F + I ≤ n ∧ (I = 512 ∨ F + I = n) := by omega
      clear hI hit HI1
      by_cases hxi : x < I
      · have hxi' : (x : Int) < (I : Int) := by omega
        have hxi0 := HXF.out (by omega)
        have hw3 : IntKind.i64.wrap ((F : Int) + x) = ((F + x : Nat) : Int) := by rw [show (F : Int) + x = ((F + x : Nat) : Int) by omega]; exact IntWalk.i64_in _ (by omega)
        have htu := HTU.out (F + x) (by omega) (by omega)
        rw [show (F + x) / 512 = j by omega] at htu
        have HT2 := Lib.hid htu
        have HX0 := Lib.hid hxi0
        clear htu hxi0 HTU
        go_wp2_with fail
        refine HT2.out.mono ?_
        rintro e w3 ⟨rfl, hf3, hst3⟩
        have HF3 : Hid (Fr bs w w3) := Lib.hid (HF1.out.trans_new hf3 (fun z hz => by
          rcases List.mem_cons.1 hz with rfl | hz
          · exact .inr (by omega)
          · exact .inl hz))
        have HS3 := Lib.hid hst3
        clear hf3 hst3 HT2
        go_wp2_with fail
        go_ret2
        refine ⟨HF3.out, c1, .inl ⟨F + x, by omega, fun y hy => ?_, by rw [← hF]; exact HX0.out, rfl, ?_⟩⟩
        · by_cases hy2 : y < F
          · exact HA.out y (by omega) (by omega)
          · have := HXT.out (y - F) (by omega)
            rwa [show 512 * j + (y - F) = y by omega] at this
        · rw [show (F + x) / 512 = j by omega]
          exact HS3.out.more (by omega)
      · have hxi' : ¬ (x : Int) < (I : Int) := by omega
        clear HTU
        go_wp2_with fail
        go_roundw
        case rel =>
          refine ⟨j + 1, c1, by omega, by go_num, HF1.out, HST1.out.more (by omega), fun y hy hyn => ?_⟩
          by_cases hy2 : y < F
          · exact HA.out y (by omega) hyn
          · have := HXT.out (y - F) (by omega)
            rwa [show 512 * j + (y - F) = y by omega] at this
        case measure => simp [intOf]; omega
    · have hlt' : ¬ (F : Int) < (n : Int) := by omega
      have HFR := Lib.hid hfr; have HS3 := Lib.hid hst
      clear hfr hst
      go_wp2_with fail
      go_ret2
      exact ⟨HFR.out, c, .inr ⟨fun y hy => HA.out y (by omega) hy, rfl, HS3.out.more (by omega)⟩⟩
end
end Go.Proofs.Ytoifpbifipgpkaa
