/-
  LabelSets: the code's sets and the document's, held against one another.
-/
import Derived.Test.YtdbhppfpalpfmaaLabRO
namespace Go.Proofs.Ytdbhppfpalpfmaa
open Go.RowKit Go.MapKept
def normZ (a : List Int) : List Int := bif setB (nd a) then nd a else []
def joinR (a b : List Int) : Bool := (setB a && setB b) && setB (joinB a b)
def joinZ (a b : List Int) : List Int := bif joinR a b then joinB a b else []
def meetZ (a b : List Int) : List Int := bif (setB a && setB b) then meetB a b else []
theorem norm_u (w : World) (ad : Option Addr) (cap : Nat) (l : List Int) (h : RdI w ad cap l) :
    Calls Try.prog 12 #[.slice ad l.length cap] w fun e w' => ∃ a c, e = .returned (.tuple #[.slice a (normZ l).length c, .bool (setB (nd l))]) ∧ RdI w' a c (normZ l) ∧ Fr [] w w' :=
  (norm_calls w ad cap l h).mono fun e w' ⟨a, c, he, hr, hf⟩ => by
    unfold normZ
    cases hb : setB (nd l) with
    | true => exact ⟨a, c, by rw [he, hb]; rfl, hr, hf⟩
    | false => exact ⟨none, 0, by rw [he, hb]; rfl, nil_rdI _, hf⟩
theorem rnorm_u (w : World) (ad : Option Addr) (cap : Nat) (l : List Int) (h : RdI w ad cap l) :
    Calls Try.prog 14 #[.slice ad l.length cap] w fun e w' => ∃ a c, e = .returned (.tuple #[.slice a (normZ l).length c, .bool (setB (nd l))]) ∧ RdI w' a c (normZ l) ∧ Fr [] w w' :=
  (rnorm_calls w ad cap l h).mono fun e w' ⟨a, c, he, hr, hf⟩ => by
    unfold normZ
    cases hb : setB (nd l) with
    | true => exact ⟨a, c, by rw [he, hb]; rfl, hr.out hb, hf⟩
    | false => exact ⟨none, 0, by rw [he, hb]; rfl, nil_rdI _, hf⟩
theorem join_u (w : World) (a1 a2 : Option Addr) (c1 c2 : Nat) (a b : List Int) (h1 : RdI w a1 c1 a) (h2 : RdI w a2 c2 b) :
    Calls Try.prog 15 #[.slice a1 a.length c1, .slice a2 b.length c2] w fun e w' => ∃ x c, e = .returned (.tuple #[.slice x (joinZ a b).length c, .bool (joinR a b)]) ∧ RdI w' x c (joinZ a b) ∧ Fr [] w w' := by
  unfold joinZ joinR
  cases hs : (setB a && setB b) with
  | true =>
    have ⟨sa, sb⟩ : setB a = true ∧ setB b = true := by simpa using hs
    refine (join_sets w a1 a2 c1 c2 a b h1 h2 sa sb _ rfl).mono ?_
    rintro e w' ⟨x, c, he, hr, hf⟩
    cases hb : setB (joinB a b) with
    | true => exact ⟨x, c, by rw [he, hb]; rfl, hr, hf⟩
    | false => exact ⟨none, 0, by rw [he, hb]; rfl, nil_rdI _, hf⟩
  | false =>
    refine (join_not w a1 a2 c1 c2 a b h1 h2 hs).mono ?_
    rintro e w' ⟨he, hf⟩
    exact ⟨none, 0, by rw [he]; rfl, nil_rdI _, hf⟩
theorem rjoin_u (w : World) (a1 a2 : Option Addr) (c1 c2 : Nat) (a b : List Int) (h1 : RdI w a1 c1 a) (h2 : RdI w a2 c2 b) (z1 : a1 = none → c1 = 0) (z2 : a2 = none → c2 = 0) :
    Calls Try.prog 16 #[.slice a1 a.length c1, .slice a2 b.length c2] w fun e w' => ∃ x c, e = .returned (.tuple #[.slice x (joinZ a b).length c, .bool (joinR a b)]) ∧ RdI w' x c (joinZ a b) ∧ Fr [] w w' := by
  unfold joinZ joinR
  cases hs : (setB a && setB b) with
  | true =>
    have ⟨sa, sb⟩ : setB a = true ∧ setB b = true := by simpa using hs
    refine (rjoin_sets w a1 a2 c1 c2 a b h1 h2 z1 z2 sa sb).mono ?_
    rintro e w' ⟨x, c, he, hr, hf⟩
    cases hb : setB (joinB a b) with
    | true => exact ⟨x, c, by rw [he, hb]; rfl, hr.out hb, hf⟩
    | false => exact ⟨none, 0, by rw [he, hb]; rfl, nil_rdI _, hf⟩
  | false =>
    refine (rjoin_not w a1 a2 c1 c2 a b h1 h2 hs).mono ?_
    rintro e w' ⟨he, hf⟩
    exact ⟨none, 0, by rw [he]; rfl, nil_rdI _, hf⟩
theorem meet_u (w : World) (a1 a2 : Option Addr) (c1 c2 : Nat) (a b : List Int) (h1 : RdI w a1 c1 a) (h2 : RdI w a2 c2 b) :
    Calls Try.prog 18 #[.slice a1 a.length c1, .slice a2 b.length c2] w fun e w' => ∃ x c, e = .returned (.slice x (meetZ a b).length c) ∧ RdI w' x c (meetZ a b) ∧ Fr [] w w' := by
  unfold meetZ
  cases hs : (setB a && setB b) with
  | true =>
    have ⟨sa, sb⟩ : setB a = true ∧ setB b = true := by simpa using hs
    exact meet_sets w a1 a2 c1 c2 a b h1 h2 sa sb
  | false =>
    refine (meet_not w a1 a2 c1 c2 a b h1 h2 hs).mono ?_
    rintro e w' ⟨he, hf⟩
    exact ⟨none, 0, by rw [he]; rfl, nil_rdI _, hf⟩
theorem rmeet_u (w : World) (a1 a2 : Option Addr) (c1 c2 : Nat) (a b : List Int) (h1 : RdI w a1 c1 a) (h2 : RdI w a2 c2 b) :
    Calls Try.prog 19 #[.slice a1 a.length c1, .slice a2 b.length c2] w fun e w' => ∃ x c, e = .returned (.slice x (meetZ a b).length c) ∧ RdI w' x c (meetZ a b) ∧ Fr [] w w' := by
  unfold meetZ
  cases hs : (setB a && setB b) with
  | true =>
    have ⟨sa, sb⟩ : setB a = true ∧ setB b = true := by simpa using hs
    exact rmeet_sets w a1 a2 c1 c2 a b h1 h2 sa sb
  | false =>
    refine (rmeet_not w a1 a2 c1 c2 a b h1 h2 hs).mono ?_
    rintro e w' ⟨he, hf⟩
    exact ⟨none, 0, by rw [he]; rfl, nil_rdI _, hf⟩
theorem bool_self (b : Bool) : (b == b) = true := by cases b <;> rfl
set_option maxRecDepth 100000 in
set_option maxHeartbeats 4000000 in
theorem sets_calls (w : World) (a1 a2 : Option Addr) (c1 c2 : Nat) (a b : List Int) (h1 : RdI w a1 c1 a) (h2 : RdI w a2 c2 b) (z1 : a1 = none → c1 = 0) (z2 : a2 = none → c2 = 0) :
    Calls Try.prog 4 #[.slice a1 a.length c1, .slice a2 b.length c2] w fun e w' => e = .returned (.bool true) ∧ Fr [] w w' := by
  have K1 : Hid (∀ w', Fr [] w w' → _) := Lib.hid (fun w' hf => norm_u w' a1 c1 a (h1.keep hf))
  have K2 : Hid (∀ w', Fr [] w w' → _) := Lib.hid (fun w' hf => rnorm_u w' a1 c1 a (h1.keep hf))
  have K3 : Hid (∀ w', Fr [] w w' → _) := Lib.hid (fun w' hf => join_u w' a1 a2 c1 c2 a b (h1.keep hf) (h2.keep hf))
  have K4 : Hid (∀ w', Fr [] w w' → _) := Lib.hid (fun w' hf => rjoin_u w' a1 a2 c1 c2 a b (h1.keep hf) (h2.keep hf) z1 z2)
  have K5 : Hid (∀ w', Fr [] w w' → _) := Lib.hid (fun w' hf => set_calls w' a1 c1 a (h1.keep hf))
  have K6 : Hid (∀ w', Fr [] w w' → _) := Lib.hid (fun w' hf => fr_draw (rset_calls w' a1 c1 a (h1.keep hf)))
  have K7 : Hid (∀ w', Fr [] w w' → _) := Lib.hid (fun w' hf => meet_u w' a1 a2 c1 c2 a b (h1.keep hf) (h2.keep hf))
  have K8 : Hid (∀ w', Fr [] w w' → _) := Lib.hid (fun w' hf => rmeet_u w' a1 a2 c1 c2 a b (h1.keep hf) (h2.keep hf))
  have K9 : Hid (∀ w', Fr [] w w' → _) := Lib.hid (fun w' hf => sub_calls w' a1 a2 c1 c2 a b (h1.keep hf) (h2.keep hf))
  have K10 : Hid (∀ w', Fr [] w w' → _) := Lib.hid (fun w' hf => rsub_calls w' a1 a2 c1 c2 a b (h1.keep hf) (h2.keep hf))
  clear h1 h2 z1 z2
  generalize setB (nd a) = r1 at *
  generalize joinR a b = r2 at *
  generalize setB a = r3 at *
  generalize subB a b = r4 at *
  generalize normZ a = l1 at *
  generalize joinZ a b = l2 at *
  generalize meetZ a b = l3 at *
  generalize a.length = n1 at *
  generalize b.length = n2 at *
  have b1 := bool_self r1; have b2 := bool_self r2; have b3 := bool_self r3; have b4 := bool_self r4
  go_enter Try.func4, Try.ntmps4
  have HF : Hid (Fr [] w w) := Lib.hid (Fr.refl _ _)
  go_wp2_with fail
  refine (K1.out _ HF.out).mono ?_
  rintro e w1 ⟨x1, k1, rfl, q1, hf⟩
  have HF1 := Lib.hid (HF.out.trans hf); have Q1 := Lib.hid q1
  clear hf q1 HF K1
  go_wp2_with fail
  refine (K2.out _ HF1.out).mono ?_
  rintro e w2 ⟨x2, k2, rfl, q2, hf⟩
  have HF2 := Lib.hid (HF1.out.trans hf); have Q1' := Lib.hid (Q1.out.keep hf); have Q2 := Lib.hid q2
  clear hf q2 HF1 K2 Q1
  go_wp2_with fail
  refine (K3.out _ HF2.out).mono ?_
  rintro e w3 ⟨x3, k3, rfl, q3, hf⟩
  have HF3 := Lib.hid (HF2.out.trans hf); have QA := Lib.hid (And.intro (Q1'.out.keep hf) (Q2.out.keep hf)); have Q3 := Lib.hid q3
  clear hf q3 HF2 K3 Q1' Q2
  go_wp2_with fail
  refine (K4.out _ HF3.out).mono ?_
  rintro e w4 ⟨x4, k4, rfl, q4, hf⟩
  have HF4 := Lib.hid (HF3.out.trans hf)
  have S1 : Hid (∀ w', Fr [] w4 w' → _) := Lib.hid (fun w' h => sameset_yes w' x1 x2 k1 k2 l1 ((QA.out.1.keep hf).keep h) ((QA.out.2.keep hf).keep h))
  have S2 : Hid (∀ w', Fr [] w4 w' → _) := Lib.hid (fun w' h => sameset_yes w' x3 x4 k3 k4 l2 ((Q3.out.keep hf).keep h) (q4.keep h))
  clear hf q4 HF3 K4 QA Q3
  generalize l1.length = m1 at *
  generalize l2.length = m2 at *
  have HG : Hid (Fr [] w4 w4) := Lib.hid (Fr.refl _ _)
  go_wp2_with fail
  refine (K5.out _ HF4.out).mono ?_
  rintro e w5 ⟨rfl, rfl⟩
  go_wp2_with fail
  refine (K6.out _ HF4.out).mono ?_
  rintro e w5 ⟨rfl, hf⟩
  have HF5 := Lib.hid (HF4.out.trans hf); have HG5 := Lib.hid (HG.out.trans hf)
  clear hf HF4 HG K5 K6
  go_wp2_with fail
  refine (S1.out _ HG5.out).mono ?_
  rintro e w6 ⟨rfl, hf⟩
  have HF6 := Lib.hid (HF5.out.trans hf); have HG6 := Lib.hid (HG5.out.trans hf)
  clear hf HF5 HG5 S1
  go_wp2_with fail
  refine (S2.out _ HG6.out).mono ?_
  rintro e w7 ⟨rfl, hf⟩
  have HF7 := Lib.hid (HF6.out.trans hf)
  clear hf HF6 HG6 S2
  go_wp2_with fail
  refine (K7.out _ HF7.out).mono ?_
  rintro e w8 ⟨x5, k5, rfl, q5, hf⟩
  have HF8 := Lib.hid (HF7.out.trans hf); have Q5 := Lib.hid q5
  clear hf HF7 q5 K7
  go_wp2_with fail
  refine (K8.out _ HF8.out).mono ?_
  rintro e w9 ⟨x6, k6, rfl, q6, hf⟩
  have hs := sameset_yes w9 x5 x6 k5 k6 l3 (Q5.out.keep hf) q6
  have HF9 := Lib.hid (HF8.out.trans hf); have HS := Lib.hid hs
  clear hf HF8 q6 Q5 hs K8
  generalize l3.length = m3 at *
  go_wp2_with fail
  refine HS.out.mono ?_
  rintro e w10 ⟨rfl, hf⟩
  have HF10 := Lib.hid (HF9.out.trans hf)
  clear hf HF9 HS
  go_wp2_with fail
  refine (K9.out _ HF10.out).mono ?_
  rintro e w11 ⟨rfl, hf⟩
  have HF11 := Lib.hid (HF10.out.trans hf)
  clear hf HF10 K9
  go_wp2_with fail
  refine (K10.out _ HF11.out).mono ?_
  rintro e w12 ⟨rfl, rfl⟩
  go_wp2_with fail
  refine (awake_calls _).mono ?_
  rintro e w13 ⟨rfl, hf⟩
  have HF12 := Lib.hid (HF11.out.trans hf)
  clear hf HF11 K10
  go_wp2_with fail
  go_ret
  exact ⟨rfl, HF12.out⟩
end Go.Proofs.Ytdbhppfpalpfmaa
