/-
  The document's own Join and Meet of what is no set.
-/
import Derived.Test.YtdbhppfpalpfmaaLabRM
namespace Go.Proofs.Ytdbhppfpalpfmaa
open Go.RowKit Go.MapKept
set_option maxHeartbeats 1000000 in
theorem rjoin_not (w : World) (a1 a2 : Option Addr) (c1 c2 : Nat) (a b : List Int) (h1 : RdI w a1 c1 a) (h2 : RdI w a2 c2 b) (h : (setB a && setB b) = false) :
    Calls Try.prog 16 #[.slice a1 a.length c1, .slice a2 b.length c2] w fun e w' => e = .returned (.tuple #[.slice none 0 0, .bool false]) ∧ Fr [] w w' := by
  have hs1 := fr_draw (rset_calls w a1 c1 a h1)
  have hs2 := fun w' (hf : Fr [] w w') => fr_draw (rset_calls w' a2 c2 b (h2.keep hf))
  clear h1 h2
  by_cases sa : setB a = true
  · rw [sa] at hs1
    have sb : setB b = false := by rw [sa] at h; simpa using h
    rw [sb] at hs2
    have HS1 := Lib.hid hs1; have HS2 := Lib.hid hs2
    clear sa sb h hs1 hs2
    go_enter Try.func16, Try.ntmps16
    go_wp2_with fail
    refine HS1.out.mono ?_
    rintro e w1 ⟨rfl, hf1⟩
    have hs2 := HS2.out w1 hf1
    have HF := Lib.hid hf1
    clear hf1
    go_wp2_with fail
    refine hs2.mono ?_
    rintro e w2 ⟨rfl, hf2⟩
    have HF2 := Lib.hid (HF.out.trans hf2)
    clear hf2
    go_wp2_with fail
    go_ret2
    exact ⟨rfl, HF2.out⟩
  · have sa' : setB a = false := by simpa using sa
    rw [sa'] at hs1
    have HS1 := Lib.hid hs1
    clear sa sa' h hs1 hs2
    go_enter Try.func16, Try.ntmps16
    go_wp2_with fail
    refine HS1.out.mono ?_
    rintro e w1 ⟨rfl, hf1⟩
    have HF := Lib.hid hf1
    clear hf1
    go_wp2_with fail
    go_ret2
    exact ⟨rfl, HF.out⟩
set_option maxRecDepth 100000 in
set_option maxHeartbeats 1000000 in
theorem rmeet_not (w : World) (a1 a2 : Option Addr) (c1 c2 : Nat) (a b : List Int) (h1 : RdI w a1 c1 a) (h2 : RdI w a2 c2 b) (h : (setB a && setB b) = false) :
    Calls Try.prog 19 #[.slice a1 a.length c1, .slice a2 b.length c2] w fun e w' => e = .returned (.slice none 0 0) ∧ Fr [] w w' := by
  have hs1 := fr_draw (rset_calls w a1 c1 a h1)
  have hs2 := fun w' (hf : Fr [] w w') => fr_draw (rset_calls w' a2 c2 b (h2.keep hf))
  have hb := h1.big
  clear h1 h2
  obtain ⟨n, hn⟩ : ∃ n, a.length = n := ⟨_, rfl⟩
  rw [hn] at hs1 hb ⊢
  clear hn
  by_cases sa : setB a = true
  · rw [sa] at hs1
    have sb : setB b = false := by rw [sa] at h; simpa using h
    rw [sb] at hs2
    have HS1 := Lib.hid hs1; have HS2 := Lib.hid hs2
    clear sa sb h hs1 hs2
    go_enter Try.func19, Try.ntmps19
    go_wp2_with fail
    go_loopw [5, 6] (fun v5 v6 wr => v5 = .slice none 0 0 ∧ v6 = .int .i64 0 ∧ wr = w) (fun _ _ _ => 0)
    case atStart => exact ⟨rfl, rfl, rfl⟩
    case round =>
      obtain ⟨rfl, rfl, rfl⟩ := hrel
      by_cases h0 : 0 < n
      · have d0 : decide (0 < n) = true := by simpa using h0
        go_wp2_with fail
        refine HS1.out.mono ?_
        rintro e w1 ⟨rfl, hf1⟩
        have hs2 := HS2.out w1 hf1
        have HF := Lib.hid hf1
        clear hf1
        go_wp2_with fail
        refine hs2.mono ?_
        rintro e w2 ⟨rfl, hf2⟩
        have HF2 := Lib.hid (HF.out.trans hf2)
        clear hf2
        go_wp2_with fail
        go_ret
        exact ⟨rfl, HF2.out⟩
      · have d0 : decide (0 < n) = false := by simpa using h0
        go_wp2_with fail
        go_ret
        exact ⟨rfl, Fr.refl _ _⟩
  · have sa' : setB a = false := by simpa using sa
    rw [sa'] at hs1
    have HS1 := Lib.hid hs1
    clear sa sa' h hs1 hs2
    go_enter Try.func19, Try.ntmps19
    go_wp2_with fail
    go_loopw [5, 6] (fun v5 v6 wr => v5 = .slice none 0 0 ∧ v6 = .int .i64 0 ∧ wr = w) (fun _ _ _ => 0)
    case atStart => exact ⟨rfl, rfl, rfl⟩
    case round =>
      obtain ⟨rfl, rfl, rfl⟩ := hrel
      by_cases h0 : 0 < n
      · have d0 : decide (0 < n) = true := by simpa using h0
        go_wp2_with fail
        refine HS1.out.mono ?_
        rintro e w1 ⟨rfl, hf1⟩
        have HF := Lib.hid hf1
        clear hf1
        go_wp2_with fail
        go_ret
        exact ⟨rfl, HF.out⟩
      · have d0 : decide (0 < n) = false := by simpa using h0
        go_wp2_with fail
        go_ret
        exact ⟨rfl, Fr.refl _ _⟩
end Go.Proofs.Ytdbhppfpalpfmaa
