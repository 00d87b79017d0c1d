/-
  A device's calls, whatever comes of them.
-/
import Derived.Test.YtoifpbifipgpkaaDevRead2
import Derived.Test.YtoifpbifipgpkaaDevWrite
import Derived.Test.YtoifpbifipgpkaaDevFlush
import Derived.Test.YtoifpbifipgpkaaWDevSmall
namespace Go.Proofs.Ytoifpbifipgpkaa
open Go.RowKit Go.MapKept
/-- What a device holds. -/
structure Dv where
  c : Int
  f : Int
  d : Bool
  ls : Nat → List UInt8
  wt : Int → Option (List UInt8)
/-- It stands at p, and has made at most b calls. -/
structure DvAt (w : World) (p l m n q : Nat) (b : Int) (v : Dv) : Prop where
  at_ : DevAt w p l m n q v.c v.f v.d v.ls v.wt
  cb : 0 ≤ v.c ∧ v.c ≤ b
  fb : -9223372036854775808 ≤ v.f ∧ v.f ≤ 9223372036854775807
theorem DvAt.keep {w w' : World} {p l m n q : Nat} {b : Int} {v : Dv} (h : DvAt w p l m n q b v) {r : List Nat} (hf : Fr r w w') (hp : p ∉ r) (hl : l ∉ r) (hm : m ∉ r) : DvAt w' p l m n q b v :=
  ⟨h.at_.keep hf hp hl hm, h.cb, h.fb⟩
theorem DvAt.more {w : World} {p l m n q : Nat} {b b' : Int} {v : Dv} (h : DvAt w p l m n q b v) (hb : b ≤ b') : DvAt w p l m n q b' v := ⟨h.at_, by have := h.cb; omega, h.fb⟩
theorem DvAt.lts {w : World} {p l m n q : Nat} {b : Int} {v : Dv} (h : DvAt w p l m n q b v) : p < w.heap.size ∧ l < w.heap.size ∧ m < w.heap.size :=
  ⟨lt_of_heap h.at_.box, by obtain ⟨lc, h1, _⟩ := h.at_.las; exact lt_of_heap h1, h.at_.wai.lt⟩
/-- A Write of 64 bytes to a sector that there is: the error, and what the device holds then. -/
def Dv.write (v : Dv) (i : Int) (s : List UInt8) : Int × Dv :=
  if v.d then (50, v) else if v.f = 0 then (50, ⟨v.c, 0, true, v.ls, v.wt⟩) else (0, ⟨v.c + 1, burnF v.f, false, v.ls, wrote v.wt i s⟩)
def Dv.flush (v : Dv) : Int × Dv :=
  if v.d then (50, v) else if v.f = 0 then (50, ⟨v.c, 0, true, v.ls, v.wt⟩) else (0, ⟨v.c + 1, burnF v.f, false, fun i : Nat => (v.wt (i : Int)).getD (v.ls i), fun _ => none⟩)
/-- A Read of a sector that there is. -/
def Dv.read (v : Dv) (i : Nat) : Int × Dv := if v.d then (50, v) else (0, ⟨v.c + 1, v.f, v.d, v.ls, v.wt⟩)
def Dv.text (v : Dv) (i : Nat) : List UInt8 := if v.d then [] else secNow v.ls v.wt i
theorem burn_rng {f : Int} (h : -9223372036854775808 ≤ f ∧ f ≤ 9223372036854775807) : -9223372036854775808 ≤ burnF f ∧ burnF f ≤ 9223372036854775807 := by unfold burnF; split <;> omega
theorem sec_len {w : World} {p l m n q : Nat} {c f : Int} {d : Bool} {ls : Nat → List UInt8} {wt : Int → Option (List UInt8)} (h : DevAt w p l m n q c f d ls wt) {i : Nat} (hi : i < n) : (secNow ls wt i).length = 64 := by
  unfold secNow
  cases hw : wt i with
  | none => obtain ⟨_, _, _, h3⟩ := h.las; exact (h3 i hi).1
  | some s => exact (h.dom i s hw).2.2
theorem Dv.text_len {w : World} {p l m n q : Nat} {b : Int} {v : Dv} (h : DvAt w p l m n q b v) {i : Nat} (hi : i < n) : (v.text i).length = if v.d then 0 else 64 := by
  unfold Dv.text
  split
  · rfl
  · exact sec_len h.at_ hi
set_option maxHeartbeats 1000000 in
theorem dwrite_calls (w : World) (p l m n q : Nat) (b : Int) (v : Dv) (h : DvAt w p l m n q b v) (hb : b < 9000000000000000000) (i : Nat) (hi : i < n) (g o cap : Nat) (s : List UInt8) (hs : s.length = 64) (hr : w.rangeAt g o (cel s)) (hgp : g ≠ p) :
    Calls Try.prog 50 #[.pointer (some ⟨p, 0, none⟩), .int .i64 i, .slice (some ⟨g, o, none⟩) 64 cap] w fun e w' => e = .returned (.int .i64 (v.write i s).1) ∧ Fr [p, m] w w' ∧ DvAt w' p l m n q (b + 1) (v.write i s).2 := by
  obtain ⟨c, f, d, ls, wt⟩ := v
  obtain ⟨ha, hc, hf⟩ := h
  simp only at ha hc hf
  have hin : (0 : Int) ≤ i ∧ (i : Int) < n := by omega
  unfold Dv.write
  cases d with
  | true =>
    simp only [↓reduceIte]
    refine (write_dead w p l m n q c f ls wt ha i _).mono fun e w' ⟨he, hw⟩ => ?_
    subst hw
    exact ⟨he, Fr.refl _ _, ⟨ha, by simp only; omega, hf⟩⟩
  | false =>
    simp only [Bool.false_eq_true, if_false]
    by_cases f0 : f = 0
    · subst f0
      simp only [↓reduceIte]
      refine (write_burnt w p l m n q c ls wt ha (by omega) i hin _ _).mono fun e w' ⟨he, hfr, hd⟩ => ?_
      exact ⟨he, hfr.mono (by simp), ⟨hd, by simp only; omega, by simp⟩⟩
    · rw [if_neg f0]
      refine (write_ok w p l m n q c f ls wt ha (by omega) hf f0 i hin g o cap s hs hr hgp).mono fun e w' ⟨he, hfr, hd⟩ => ?_
      exact ⟨he, hfr, ⟨hd, by simp only; omega, burn_rng hf⟩⟩
set_option maxHeartbeats 1000000 in
theorem dflush_calls (w : World) (p l m n q : Nat) (b : Int) (v : Dv) (h : DvAt w p l m n q b v) (hb : b < 9000000000000000000) :
    Calls Try.prog 51 #[.pointer (some ⟨p, 0, none⟩)] w fun e w' => e = .returned (.int .i64 v.flush.1) ∧ Fr [p, l, m] w w' ∧ DvAt w' p l m n q (b + 1) v.flush.2 := by
  obtain ⟨c, f, d, ls, wt⟩ := v
  obtain ⟨ha, hc, hf⟩ := h
  simp only at ha hc hf
  unfold Dv.flush
  cases d with
  | true =>
    simp only [↓reduceIte]
    refine (flush_dead w p l m n q c f ls wt ha).mono fun e w' ⟨he, hw⟩ => ?_
    subst hw
    exact ⟨he, Fr.refl _ _, ⟨ha, by simp only; omega, hf⟩⟩
  | false =>
    simp only [Bool.false_eq_true, if_false]
    by_cases f0 : f = 0
    · subst f0
      simp only [↓reduceIte]
      refine (flush_burnt w p l m n q c ls wt ha (by omega)).mono fun e w' ⟨he, hfr, hd⟩ => ?_
      exact ⟨he, hfr.mono (by simp), ⟨hd, by simp only; omega, by simp⟩⟩
    · rw [if_neg f0]
      refine (flush_ok w p l m n q c f ls wt ha (by omega) hf f0).mono fun e w' ⟨he, hfr, hd⟩ => ?_
      exact ⟨he, hfr, ⟨hd, by simp only; omega, burn_rng hf⟩⟩
set_option maxHeartbeats 1000000 in
theorem dread_calls (w : World) (p l m n q : Nat) (b : Int) (v : Dv) (h : DvAt w p l m n q b v) (hb : b < 9000000000000000000) (i : Nat) (hi : i < n) :
    Calls Try.prog 48 #[.pointer (some ⟨p, 0, none⟩), .int .i64 i] w fun e w' => ∃ x, e = .returned (.tuple #[x, .int .i64 (v.read i).1]) ∧ Fr [p] w w' ∧ DvAt w' p l m n q (b + 1) (v.read i).2 ∧ w'.ownsRow w.heap.size 5 1 x (v.text i).length (cel (v.text i)) := by
  have hlen := Dv.text_len h hi
  obtain ⟨c, f, d, ls, wt⟩ := v
  obtain ⟨ha, hc, hf⟩ := h
  simp only at ha hc hf hlen
  unfold Dv.read
  unfold Dv.text at hlen ⊢
  cases d with
  | true =>
    simp only [↓reduceIte]
    refine (read_dead w p l m n q c f ls wt ha i).mono fun e w' ⟨he, hw⟩ => ?_
    subst hw
    exact ⟨_, he, Fr.refl _ _, ⟨ha, by simp only; omega, hf⟩, World.ownsRow_nil _ _ _ _⟩
  | false =>
    simp only [Bool.false_eq_true, if_false] at hlen ⊢
    refine (read_ok w p l m n q c f ls wt ha (by omega) i hi).mono fun e w' hx => ?_
    obtain ⟨x, he, hfr, hd, ho⟩ := hx
    exact ⟨x, he, hfr, ⟨hd, by simp only; omega, hf⟩, by rw [hlen]; exact ho⟩
end Go.Proofs.Ytoifpbifipgpkaa
