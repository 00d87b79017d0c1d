/-
  LabelAsks: any labels, any capabilities, any tags.
-/
import Derived.Test.YtdbhppfpalpfmaaLabAs
namespace Go.Proofs.Ytdbhppfpalpfmaa
open Go.RowKit Go.MapKept
theorem asks_calls (w : World) (a1 a2 b1 b2 p1 p2 q1 q2 t1 : Option Addr) (c1 d1 c2 d2 k1 k2 l1 l2 ct : Nat) (s1 i1 s2 i2 p m q o tt : List Int) (h1 : RdI w a1 c1 s1) (h2 : RdI w a2 d1 i1) (h3 : RdI w b1 c2 s2) (h4 : RdI w b2 d2 i2) (h5 : RdI w p1 k1 p) (h6 : RdI w p2 k2 m) (h7 : RdI w q1 l1 q) (h8 : RdI w q2 l2 o) (h9 : RdI w t1 ct tt) (z5 : p1 = none → k1 = 0) (z6 : p2 = none → k2 = 0) (z7 : q1 = none → l1 = 0) (z8 : q2 = none → l2 = 0) :
    Calls Try.prog 5 #[.agg #[.slice a1 s1.length c1, .slice a2 i1.length d1], .agg #[.slice b1 s2.length c2, .slice b2 i2.length d2], .agg #[.slice p1 p.length k1, .slice p2 m.length k2], .agg #[.slice q1 q.length l1, .slice q2 o.length l2], .slice t1 tt.length ct] w fun e w' => e = .returned (.bool true) ∧ Fr [] w w' := by
  cases m1 : (setB s1 && setB i1) with
  | false => exact asks_no1 w a1 a2 b1 b2 p1 p2 q1 q2 t1 c1 d1 c2 d2 k1 k2 l1 l2 ct s1 i1 s2 i2 p m q o tt h1 h2 h3 h4 h5 h6 h7 h8 h9 m1
  | true =>
    cases m2 : (setB s2 && setB i2) with
    | false => exact asks_no2 w a1 a2 b1 b2 p1 p2 q1 q2 t1 c1 d1 c2 d2 k1 k2 l1 l2 ct s1 i1 s2 i2 p m q o tt h1 h2 h3 h4 h5 h6 h7 h8 h9 m1 m2
    | true =>
      cases m3 : (setB p && setB m) with
      | false => exact asks_no3 w a1 a2 b1 b2 p1 p2 q1 q2 t1 c1 d1 c2 d2 k1 k2 l1 l2 ct s1 i1 s2 i2 p m q o tt h1 h2 h3 h4 h5 h6 h7 h8 h9 m1 m2 m3
      | true =>
        cases m4 : (setB q && setB o) with
        | false => exact asks_no4 w a1 a2 b1 b2 p1 p2 q1 q2 t1 c1 d1 c2 d2 k1 k2 l1 l2 ct s1 i1 s2 i2 p m q o tt h1 h2 h3 h4 h5 h6 h7 h8 h9 m1 m2 m3 m4
        | true =>
          rw [Bool.and_eq_true] at m1 m2 m3 m4
          exact asks_yes w a1 a2 b1 b2 p1 p2 q1 q2 t1 c1 d1 c2 d2 k1 k2 l1 l2 ct s1 i1 s2 i2 p m q o tt h1 h2 h3 h4 h5 h6 h7 h8 h9 z5 z6 z7 z8 m1.1 m1.2 m2.1 m2.2 m3.1 m3.2 m4.1 m4.2
end Go.Proofs.Ytdbhppfpalpfmaa
