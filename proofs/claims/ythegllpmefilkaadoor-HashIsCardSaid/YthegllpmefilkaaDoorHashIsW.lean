/-
  HashIs, HashLengths: what they need.
-/
import Derived.Test.YthegllpmefilkaaDoorShaZero
import Derived.Test.YthegllpmefilkaaDoorRConst
import Derived.Test.YthegllpmefilkaaDoorShaAwake
import Derived.Lib.QuietBelow
import Derived.BigQuiet
namespace Go.Proofs.YthegllpmefilkaaDoor
open Go.RowKit Go.MapKept
def Plain (ad : Option Addr) (cap : Nat) : Prop := (∀ a, ad = some a → ∃ b off, a = ⟨b, off, none⟩) ∨ cap = 0
theorem sha_any (w : World) (ad : Option Addr) (cap : Nat) (m : List UInt8) (hm : Reads w ad cap m) (hT : TabAt w) (hsp : Plain ad cap) :
    Calls Tryd.prog 9 #[.slice ad m.length cap] w (NewB w (shaB m)) := by
  rcases hsp with h | h
  · exact sha_calls w ad cap m hm hT h
  · subst h
    have hle := hm.le
    obtain rfl : m = [] := List.eq_nil_of_length_eq_zero (by omega)
    cases ad with
    | none => exact sha_nil w hT
    | some a => exact sha_zero w a hT
theorem beq_selfB (s : ByteArray) : (s == s) = true := (bytes_beq s s).2 rfl
/-- What a value reads as, here and behind whatever is new. -/
def StrB (w : World) (v : Value) (r : ByteArray) : Prop := ∀ W, Fr [] w W → (convert 23 9 v).run Tryd.prog W = .ok (.string r) W
theorem StrB.own {w : World} {B : Nat} {T : TypeId} {v : Value} {n : Nat} {s : List UInt8} (h : w.ownsRow B T 1 v n (cel s)) : StrB w v ⟨s.toArray⟩ := fun W hW =>
  own_toString Tryd.underlying23 Tryd.underlying5 Tryd.underlying9 (own_keep h hW)
theorem conv_zeroB {P : Program} (w : World) (src e : TypeId) (hs : P.underlying src = some (.slice e)) (he : P.underlying e = some (.int .u8)) (p : Option Addr) (c : Nat) :
    ∀ dst, P.underlying dst = some .string → (convert src dst (.slice p 0 c)).run P w = .ok (.string ⟨#[]⟩) w := by
  intro dst hd
  rw [run_convert_bytes_string w src dst e _ 0 c hs he hd]
  cases p <;> simp [Conv.bytesToString, loadCells]
  all_goals rfl
theorem StrB.reads {w : World} {ad : Option Addr} {cap : Nat} {m : List UInt8} (h : Reads w ad cap m) : StrB w (.slice ad m.length cap) ⟨m.toArray⟩ := fun W hW => by
  have h := h.keep hW
  by_cases h0 : 0 < m.length
  · cases ad with
    | none => have := h.nil rfl; have := h.le; omega
    | some a =>
      obtain ⟨b, off, rfl, hb⟩ := h.at_ _ rfl h0
      exact run_toString Tryd.underlying23 Tryd.underlying5 Tryd.underlying9 b off cap m m.length rfl hb
  · obtain rfl : m = [] := List.eq_nil_of_length_eq_zero (by omega)
    exact conv_zeroB W _ _ Tryd.underlying23 Tryd.underlying5 _ _ _ Tryd.underlying9
/-- New bytes of a hash: their text. -/
theorem newS {w : World} {m : List UInt8} {e : Ending} {w' : World} (h : NewB w (shaB m) e w') : ∃ ad cap, e = .returned (.slice ad 32 cap) ∧ Fr [] w w' ∧ StrB w' (.slice ad 32 cap) ⟨(shaB m).toArray⟩ := by
  obtain ⟨v, rfl, ho, hf⟩ := h
  obtain ⟨ad, cap, hv, _⟩ := own_reads ho (by rw [shaB_length]; decide)
  rw [shaB_length] at hv
  subst hv
  exact ⟨ad, cap, rfl, hf, StrB.own ho⟩
theorem Fr.of_below {w w' : World} (h : Below w.heap.size w w') : Fr [] w w' := ⟨h.os, h.tape, h.output, h.size, fun k hk _ => h.block k hk⟩
theorem below_fr {a b : World} (h : Fr [] a b) : Below a.heap.size a b := h.below (Nat.le_refl _) (by simp)
theorem fr_regrown (w : World) (d : Nat) (os : Array Obj) : Fr [] w (Go.Sort.grow (redrawn w d) os) := Fr.of_below (below_regrown w d os)
theorem quiet_of_fr {P : Program} {f : FuncId} {args : Array Value} {w0 w : World} {v : Value} (hw : Fr [] w0 w)
    (h : ∀ w', Fr [] w0 w' → Calls P f args w' fun e w'' => e = .returned v ∧ Fr [] w' w'') (d : Nat) (os : Array Obj) :
    Calls P f args (Go.Sort.grow (redrawn w d) os) fun e w'' => e = .returned v ∧ ∃ p : Regrown, w'' = Go.Sort.grow (redrawn w p.d) p.os :=
  Calls.regrown_of ((h _ (hw.trans (fr_regrown w d os))).mono fun e w' ⟨h1, h2⟩ => ⟨h1, below_fr h2⟩)
set_option maxRecDepth 100000 in
set_option maxHeartbeats 4000000 in
theorem is_calls (w : World) (ad : Option Addr) (cap : Nat) (m : List UInt8) (hm : Reads w ad cap m) (hsp : Plain ad cap) (hT : TabAt w) :
    Calls Tryd.prog 4 #[.slice ad m.length cap] w fun e w' => e = .returned (.bool true) ∧ Fr [] w w' := by
  have HT := Lib.hid hT
  have K9 : Hid (∀ W, Fr [] w W → Calls Tryd.prog 9 #[.slice ad m.length cap] W _) := Lib.hid (fun W hf => sha_any W ad cap m (hm.keep hf) (hT.keep hf (by simp)) hsp)
  have KA : Hid (∀ W, Fr [] w W → Calls Tryd.prog 8 #[] W _) := Lib.hid (fun W hf => awake_calls W (hT.keep hf (by simp)))
  have hS := StrB.reads hm
  obtain ⟨n, hn⟩ : ∃ n, m.length = n := ⟨_, rfl⟩
  by_cases hb : 1000 < n
  · have hb' : (1000 : Int) < (n : Int) := by omega
    rw [hn] at K9 ⊢
    clear hS hm hsp hT
    have hfd : Fr [] w w.drew := (Fr.refl [] w).drew
    go_enter Tryd.func4, Tryd.ntmps4
    go_wp2_with fail
    have ka := quiet_of_fr (Fr.refl [] w) KA.out
    refine wp_region_quiet_below (by kernel_rfl) (by kernel_rfl) ?_
    repeat (go_big_quiet_step (with_reducible (first | exact ka _ _)))
    refine wpQuiet_nil ?_
    intro _ hw'
    obtain ⟨⟨dq, osq⟩, hw''⟩ := hw'
    subst hw''
    have HZ := Lib.hid (fr_regrown w dq osq)
    clear ka
    go_wp2_with fail
    go_ret
    exact ⟨rfl, HZ.out⟩
  · have hb' : ¬ (1000 : Int) < (n : Int) := by omega
    have KR : Hid (∀ W, Calls Tryd.prog 10 #[.string ⟨m.toArray⟩] W _) := Lib.hid (fun W => rsha_calls W m (by omega))
    have hsame := beq_selfB ⟨(shaB m).toArray⟩
    rw [hn] at K9 hS ⊢
    clear hm hsp hT
    have hfd : Fr [] w w.drew := (Fr.refl [] w).drew
    unfold StrB at hS
    go_enter Tryd.func4, Tryd.ntmps4
    go_wp2_with fail
    have hq := hfd
    have hd : decide ((1000 : Int) < (n : Int)) = false := decide_eq_false (by omega)
    go_region_with (first
        | (go_at_call 9; (with_reducible refine (K9.out _ hq).mono ?_); rintro e wa hN; obtain ⟨ad9, c9, rfl, hfa, hsa⟩ := newS hN; have hra := Fr.refl [] wa; have hq := hq.trans hfa; unfold StrB at hsa; clear hN)
        | (go_at_call 10; (with_reducible refine (KR.out _).mono ?_); rintro e wb hN; obtain ⟨ad12, c12, rfl, hfb, hsb⟩ := newS hN; have hrb := Fr.refl [] wb; have hq := hq.trans hfb; unfold StrB at hsb; clear hN)
        | (go_at_call 8; (with_reducible refine (KA.out _ hq).mono ?_); rintro e w7 ⟨rfl, hf⟩; have hq := hq.trans hf; clear hf))
    all_goals
      have HZ := Lib.hid hq
      clear hq
      go_wp2_with fail
      go_ret
      exact ⟨rfl, HZ.out⟩
end Go.Proofs.YthegllpmefilkaaDoor
