/-
  alloc: the least free item of a sector.
-/
import Derived.Test.YtoifpbifipgpkaaAl1
namespace Go.Proofs.Ytoifpbifipgpkaa
open Go.RowKit Go.MapKept
/-- What leastFree finds in sector j. -/
def Least (f : Nat → Bool) (j : Nat) (e : Ending) : Prop := ∃ x : Nat, e = .returned (.int .i64 x) ∧ x ≤ 512 ∧ (∀ y, y < x → f (512 * j + y) = true) ∧ (x < 512 → f (512 * j + x) = false)
set_option maxRecDepth 100000 in
set_option maxHeartbeats 1000000 in
theorem least_calls (w : World) (g cap : Nat) (f : Nat → Bool) (j : Nat) (hj : j ≤ 16) (hr : w.rangeAt g 0 (cel (secOf f j))) :
    Calls Try.prog 53 #[.slice (some ⟨g, 0, none⟩) 64 cap] w fun e w' => Least f j e ∧ w = w' := by
  have HC : Hid (∀ k : Nat, k < 64 → w.cell? ⟨g, k, none⟩ = some (.int .u8 (b8 f (512 * j + 8 * k)))) := Lib.hid (fun k hk => by
    have := hr k _ (secOf_get f j hk)
    rwa [Nat.zero_add] at this)
  have HB : Hid (∀ i : Nat, i < 512 → Calls Try.prog 57 #[.slice (some ⟨g, 0, none⟩) 64 cap, .int .i64 i] w fun e w' => e = .returned (.int .i64 (f (512 * j + i)).toNat) ∧ w = w') := Lib.hid (fun i hi => by
    have h1 : (fun y => f (512 * j + y)) i = f (512 * j + i) := rfl
    have h2 : secOf (fun y => f (512 * j + y)) (i / 512) = secOf f j := by
      rw [show i / 512 = 0 by omega]
      unfold secOf
      refine List.map_congr_left fun k _ => ?_
      unfold b8
      simp only [Nat.mul_zero, Nat.zero_add, Nat.add_assoc]
    have := bit_calls w g cap (fun y => f (512 * j + y)) i (by omega) (by rw [h2]; exact hr)
    exact this)
  clear hr
  go_enter Try.func53, Try.ntmps53
  go_wp2_with fail
  go_loopw [3] (fun v3 wr => ∃ c : Nat, (c ≤ 512 ∧ c % 8 = 0) ∧ v3 = .int .i64 c ∧ w = wr ∧ ∀ y, y < c → f (512 * j + y) = true) (fun v3 _ => 1000 - (intOf v3).toNat)
  case atStart => exact ⟨0, by omega, rfl, rfl, fun y hy => by omega⟩
  case round =>
    obtain ⟨c, ⟨hc1, hc8⟩, rfl, rfl, hall⟩ := hrel
    have hw1 : IntKind.i64.wrap ((c : Int) + 8) = (c : Int) + 8 := IntWalk.i64_in _ (by omega)
    have HALL := Lib.hid hall
    clear hall
    by_cases h64 : c < 512
    · obtain ⟨k, hk⟩ : ∃ k : Nat, c = 8 * k := ⟨c / 8, by omega⟩
      have hc := HC.out k (by omega)
      rw [← hk] at hc
      have i0 : (c : Int) / 8 = (k : Int) := by omega
      have i1 : (c : Int) < 512 := by omega
      have i2 : (0 : Int) ≤ (c : Int) := by omega
      have i3 : (k : Int) < 64 := by omega
      have i4 : (0 : Int) ≤ (k : Int) := by omega
      have i5 : ((k : Int)).toNat = k := by omega
      have hlt := b8_lt f (512 * j + c)
      have hfull := b8_full f (512 * j + c)
      obtain ⟨x, hx⟩ : ∃ x, b8 f (512 * j + c) = x := ⟨_, rfl⟩
      rw [hx] at hc hlt hfull
      clear hx hk
      by_cases h255 : x = 255
      · subst h255
        have HF := Lib.hid (hfull.1 rfl)
        clear hfull
        go_wp2_with fail
        go_roundw
        case rel =>
          refine ⟨c + 8, by omega, by go_num, trivial, fun y hy => ?_⟩
          by_cases hy2 : y < c
          · exact HALL.out y hy2
          · have := HF.out (y - c) (by omega)
            rwa [show 512 * j + c + (y - c) = 512 * j + y by omega] at this
        case measure => simp [intOf]; omega
      · have h255' : ((x : Int) == 255) = false := beq_eq_false_iff_ne.2 (by omega)
        clear hfull
        go_wp2_with fail
        go_loopw [3] (fun v3 wr => ∃ c : Nat, c ≤ 512 ∧ v3 = .int .i64 c ∧ w = wr ∧ ∀ y, y < c → f (512 * j + y) = true) (fun v3 _ => 1000 - (intOf v3).toNat)
        case atStart => exact ⟨c, by omega, rfl, rfl, HALL.out⟩
        case round =>
          obtain ⟨d, hd1, rfl, rfl, hall⟩ := hrel
          have hw2 : IntKind.i64.wrap ((d : Int) + 1) = (d : Int) + 1 := IntWalk.i64_in _ (by omega)
          have HAL2 := Lib.hid hall
          clear hall HALL
          by_cases h64 : d < 512
          · have j1 : (d : Int) < 512 := by omega
            have hb := HB.out d h64
            obtain ⟨x, hx⟩ : ∃ x, f (512 * j + d) = x := ⟨_, rfl⟩
            rw [hx] at hb
            have HX := Lib.hid hx
            have HBB := Lib.hid hb
            clear hx hb
            cases x with
            | true =>
              go_wp2_with fail
              refine HBB.out.mono ?_
              rintro e w1 ⟨rfl, rfl⟩
              go_wp2_with fail
              go_roundw
              case rel =>
                refine ⟨d + 1, by omega, by go_num, trivial, fun y hy => ?_⟩
                by_cases hy2 : y < d
                · exact HAL2.out y hy2
                · obtain rfl : y = d := by omega
                  exact HX.out
              case measure => simp [intOf]; omega
            | false =>
              go_wp2_with fail
              refine HBB.out.mono ?_
              rintro e w1 ⟨rfl, rfl⟩
              go_wp2_with fail
              go_ret
              exact ⟨⟨d, rfl, by omega, HAL2.out, fun _ => HX.out⟩, rfl⟩
          · obtain rfl : d = 512 := by omega
            go_wp2_with fail
            go_ret
            exact ⟨⟨512, rfl, by omega, HAL2.out, fun h => by omega⟩, rfl⟩
    · obtain rfl : c = 512 := by omega
      go_wp2_with fail
      go_loopw [3] (fun v3 wr => ∃ c : Nat, c ≤ 512 ∧ v3 = .int .i64 c ∧ w = wr ∧ ∀ y, y < c → f (512 * j + y) = true) (fun v3 _ => 1000 - (intOf v3).toNat)
      case atStart => exact ⟨512, by omega, rfl, rfl, HALL.out⟩
      case round =>
        obtain ⟨d, hd1, rfl, rfl, hall⟩ := hrel
        have hw2 : IntKind.i64.wrap ((d : Int) + 1) = (d : Int) + 1 := IntWalk.i64_in _ (by omega)
        have HAL2 := Lib.hid hall
        clear hall HALL
        by_cases h64 : d < 512
        · have j1 : (d : Int) < 512 := by omega
          have hb := HB.out d h64
          obtain ⟨x, hx⟩ : ∃ x, f (512 * j + d) = x := ⟨_, rfl⟩
          rw [hx] at hb
          have HX := Lib.hid hx
          have HBB := Lib.hid hb
          clear hx hb
          cases x with
          | true =>
            go_wp2_with fail
            refine HBB.out.mono ?_
            rintro e w1 ⟨rfl, rfl⟩
            go_wp2_with fail
            go_roundw
            case rel =>
              refine ⟨d + 1, by omega, by go_num, trivial, fun y hy => ?_⟩
              by_cases hy2 : y < d
              · exact HAL2.out y hy2
              · obtain rfl : y = d := by omega
                exact HX.out
            case measure => simp [intOf]; omega
          | false =>
            go_wp2_with fail
            refine HBB.out.mono ?_
            rintro e w1 ⟨rfl, rfl⟩
            go_wp2_with fail
            go_ret
            exact ⟨⟨d, rfl, by omega, HAL2.out, fun _ => HX.out⟩, rfl⟩
        · obtain rfl : d = 512 := by omega
          go_wp2_with fail
          go_ret
          exact ⟨⟨512, rfl, by omega, HAL2.out, fun h => by omega⟩, rfl⟩
end Go.Proofs.Ytoifpbifipgpkaa
