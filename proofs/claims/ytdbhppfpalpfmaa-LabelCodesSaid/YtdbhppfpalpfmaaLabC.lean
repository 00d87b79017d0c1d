/-
  Join, Meet; what is allowed; Flows, Same, Safe, Change.
-/
import Derived.Test.YtdbhppfpalpfmaaLabK
namespace Go.Proofs.Ytdbhppfpalpfmaa
open Go.RowKit Go.MapKept
theorem joinB_len {a b : List Int} : (joinB a b).length ≤ a.length + b.length := by unfold joinB; rw [List.length_map]; exact mg_len a b
theorem meetB_len {a b : List Int} : (meetB a b).length ≤ a.length + b.length := by unfold meetB; rw [List.length_map]; exact Nat.le_trans (List.length_filter_le _ _) (mg_len a b)
set_option maxHeartbeats 1000000 in
theorem join_sets (w : World) (a1 a2 : Option Addr) (c1 c2 : Nat) (a b : List Int) (h1 : RdI w a1 c1 a) (h2 : RdI w a2 c2 b) (sa : setB a = true) (sb : setB b = true) (r : Bool) (hr : setB (joinB a b) = r) :
    Calls Try.prog 15 #[.slice a1 a.length c1, .slice a2 b.length c2] w fun e w' =>
      ∃ ad cap, e = .returned (.tuple #[bif r then .slice ad (joinB a b).length cap else .slice none 0 0, .bool r]) ∧ RdI w' ad cap (joinB a b) ∧ Fr [] w w' := by
  have hs1 := set_calls w a1 c1 a h1
  have hs2 := set_calls w a2 c2 b h2
  rw [sa] at hs1
  rw [sb] at hs2
  have hg := gatherJ_calls w a1 a2 c1 c2 a b h1 h2 (setB_asc sa) (setB_asc sb) (setB_len sa) (setB_len sb)
  have hjl : (joinB a b).length * 8 ≤ 140737488355328 := by have := @joinB_len a b; have := setB_len sa; have := setB_len sb; omega
  have hs3 := fun (w' : World) ad cap (h : RdI w' ad cap (joinB a b)) => set_calls w' ad cap (joinB a b) h
  have HS3 := Lib.hid hs3; have HJL := Lib.hid hjl; have HR := Lib.hid hr
  rw [show ((mg a b).map fun p : Int × Int => p.1) = joinB a b from rfl] at hg
  generalize joinB a b = j at *
  clear h1 h2 sa sb hs3 hjl hr
  go_enter Try.func15, Try.ntmps15
  go_wp2_with fail
  refine hs1.mono ?_
  rintro e w' ⟨rfl, rfl⟩
  go_wp2_with fail
  refine hs2.mono ?_
  rintro e w' ⟨rfl, rfl⟩
  go_wp2_with fail
  refine hg.mono ?_
  rintro e w' ⟨v, rfl, hown, hf⟩
  obtain ⟨ad, cap, rfl, hrd, _⟩ := own_rdI hown HJL.out
  have hs3 := HS3.out w' ad cap hrd
  rw [HR.out] at hs3
  have HRD := Lib.hid hrd; have HF := Lib.hid hf
  clear hown hrd hf hg hs1 hs2
  cases r with
  | true =>
    go_wp2_with fail
    refine hs3.mono ?_
    rintro e w' ⟨rfl, rfl⟩
    go_wp2_with fail
    go_ret2
    exact ⟨ad, cap, rfl, HRD.out, HF.out⟩
  | false =>
    go_wp2_with fail
    refine hs3.mono ?_
    rintro e w' ⟨rfl, rfl⟩
    go_wp2_with fail
    go_ret2
    exact ⟨ad, cap, rfl, HRD.out, HF.out⟩
set_option maxHeartbeats 1000000 in
theorem join_not (w : World) (a1 a2 : Option Addr) (c1 c2 : Nat) (a b : List Int) (h1 : RdI w a1 c1 a) (h2 : RdI w a2 c2 b) (h : (setB a && setB b) = false) :
    Calls Try.prog 15 #[.slice a1 a.length c1, .slice a2 b.length c2] w fun e w' =>
      e = .returned (.tuple #[.slice none 0 0, .bool false]) ∧ Fr [] w w' := by
  have hs1 := set_calls w a1 c1 a h1
  have hs2 := set_calls w a2 c2 b h2
  clear h1 h2
  by_cases sa : setB a = true
  · rw [sa] at hs1
    have sb : setB b = false := by rw [sa] at h; simpa using h
    rw [sb] at hs2
    clear sa sb h
    go_enter Try.func15, Try.ntmps15
    go_wp2_with fail
    refine hs1.mono ?_
    rintro e w' ⟨rfl, rfl⟩
    go_wp2_with fail
    refine hs2.mono ?_
    rintro e w' ⟨rfl, rfl⟩
    go_wp2_with fail
    go_ret2
    exact ⟨rfl, Fr.refl _ _⟩
  · have sa' : setB a = false := by simpa using sa
    rw [sa'] at hs1
    clear sa sa' h
    go_enter Try.func15, Try.ntmps15
    go_wp2_with fail
    refine hs1.mono ?_
    rintro e w' ⟨rfl, rfl⟩
    go_wp2_with fail
    go_ret2
    exact ⟨rfl, Fr.refl _ _⟩
set_option maxHeartbeats 1000000 in
theorem meet_sets (w : World) (a1 a2 : Option Addr) (c1 c2 : Nat) (a b : List Int) (h1 : RdI w a1 c1 a) (h2 : RdI w a2 c2 b) (sa : setB a = true) (sb : setB b = true) :
    Calls Try.prog 18 #[.slice a1 a.length c1, .slice a2 b.length c2] w fun e w' =>
      ∃ ad cap, e = .returned (.slice ad (meetB a b).length cap) ∧ RdI w' ad cap (meetB a b) ∧ Fr [] w w' := by
  have hs1 := set_calls w a1 c1 a h1
  have hs2 := set_calls w a2 c2 b h2
  rw [sa] at hs1
  rw [sb] at hs2
  have hg := gatherM_calls w a1 a2 c1 c2 a b h1 h2 (setB_asc sa) (setB_asc sb) (setB_len sa) (setB_len sb)
  have hjl : (meetB a b).length * 8 ≤ 140737488355328 := by have := @meetB_len a b; have := setB_len sa; have := setB_len sb; omega
  have HJL := Lib.hid hjl
  rw [show (((mg a b).filter fun p : Int × Int => p.2 == 3).map fun p : Int × Int => p.1) = meetB a b from rfl] at hg
  generalize meetB a b = j at *
  clear h1 h2 sa sb hjl
  go_enter Try.func18, Try.ntmps18
  go_wp2_with fail
  refine hs1.mono ?_
  rintro e w' ⟨rfl, rfl⟩
  go_wp2_with fail
  refine hs2.mono ?_
  rintro e w' ⟨rfl, rfl⟩
  go_wp2_with fail
  refine hg.mono ?_
  rintro e w' ⟨v, rfl, hown, hf⟩
  obtain ⟨ad, cap, rfl, hrd, _⟩ := own_rdI hown HJL.out
  have HRD := Lib.hid hrd; have HF := Lib.hid hf
  clear hown hrd hf hg hs1 hs2
  go_wp2_with fail
  go_ret
  exact ⟨ad, cap, rfl, HRD.out, HF.out⟩
set_option maxHeartbeats 1000000 in
theorem meet_not (w : World) (a1 a2 : Option Addr) (c1 c2 : Nat) (a b : List Int) (h1 : RdI w a1 c1 a) (h2 : RdI w a2 c2 b) (h : (setB a && setB b) = false) :
    Calls Try.prog 18 #[.slice a1 a.length c1, .slice a2 b.length c2] w fun e w' => e = .returned (.slice none 0 0) ∧ Fr [] w w' := by
  have hs1 := set_calls w a1 c1 a h1
  have hs2 := set_calls w a2 c2 b h2
  clear h1 h2
  by_cases sa : setB a = true
  · rw [sa] at hs1
    have sb : setB b = false := by rw [sa] at h; simpa using h
    rw [sb] at hs2
    clear sa sb h
    go_enter Try.func18, Try.ntmps18
    go_wp2_with fail
    refine hs1.mono ?_
    rintro e w' ⟨rfl, rfl⟩
    go_wp2_with fail
    refine hs2.mono ?_
    rintro e w' ⟨rfl, rfl⟩
    go_wp2_with fail
    go_ret
    exact ⟨rfl, Fr.refl _ _⟩
  · have sa' : setB a = false := by simpa using sa
    rw [sa'] at hs1
    clear sa sa' h
    go_enter Try.func18, Try.ntmps18
    go_wp2_with fail
    refine hs1.mono ?_
    rintro e w' ⟨rfl, rfl⟩
    go_wp2_with fail
    go_ret
    exact ⟨rfl, Fr.refl _ _⟩
/-! ### Capabilities -/
set_option maxHeartbeats 400000 in
theorem plus_calls (w : World) (p m : Value) (hp : p.oneCell' = true) (hm : m.oneCell' = true) (a1 a2 : Option Addr) (n1 n2 c1 c2 : Nat) (e1 : p = .slice a1 n1 c1) (e2 : m = .slice a2 n2 c2) :
    Calls Try.prog 57 #[.agg #[p, m]] w fun e w' => e = .returned p ∧ w' = w.alloc (.cells #[p, m] 35) := by
  subst e1 e2
  go_enter Try.func57, Try.ntmps57
  go_wp2
  go_ret
  exact ⟨rfl, rfl⟩
set_option maxHeartbeats 400000 in
theorem minus_calls (w : World) (p m : Value) (hp : p.oneCell' = true) (hm : m.oneCell' = true) (a1 a2 : Option Addr) (n1 n2 c1 c2 : Nat) (e1 : p = .slice a1 n1 c1) (e2 : m = .slice a2 n2 c2) :
    Calls Try.prog 58 #[.agg #[p, m]] w fun e w' => e = .returned m ∧ w' = w.alloc (.cells #[p, m] 35) := by
  subst e1 e2
  go_enter Try.func58, Try.ntmps58
  go_wp2
  go_ret
  exact ⟨rfl, rfl⟩
end Go.Proofs.Ytdbhppfpalpfmaa
