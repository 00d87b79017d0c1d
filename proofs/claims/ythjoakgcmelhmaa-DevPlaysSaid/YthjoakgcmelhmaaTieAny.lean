/-
  A device and the document's own: a call, whatever comes of it.
-/
import Derived.Test.YthjoakgcmelhmaaTie
import Derived.Test.YthjoakgcmelhmaaDevAwake
namespace Go.Proofs.Ythjoakgcmelhmaa
open Go.RowKit Go.MapKept
theorem fuse_nought : fuseOf 0 = 0 := by decide
theorem burn_rng {f : Int} (h : -9223372036854775808 ≤ f ∧ f ≤ 9223372036854775807) : -9223372036854775808 ≤ burnF f ∧ burnF f ≤ 9223372036854775807 := by unfold burnF; split <;> omega
theorem sec_len {w : World} {p l m n q : Nat} {c f : Int} {d : Bool} {ls : Nat → List UInt8} {wt : Int → Option (List UInt8)} (h : DevAt w p l m n q c f d ls wt) {i : Nat} (hi : i < n) : (secNow ls wt i).length = 64 := by
  unfold secNow
  cases hw : wt i with
  | none => obtain ⟨_, _, _, h3⟩ := h.las; exact (h3 i hi).1
  | some s => exact (h.dom i s hw).2.2
set_option maxHeartbeats 1000000 in
theorem Tie.flushAny {w : World} {p l m q r b q' n : Nat} {c f : Int} {d : Bool} {ls : Nat → List UInt8} {wt : Int → Option (List UInt8)} (h : Tie w p l m q r b q' n c f d ls wt) (hcb : 0 ≤ c ∧ c < 9000000000000000000) :
    ∃ (code c' f' : Int) (d' : Bool) (ls' : Nat → List UInt8) (wt' : Int → Option (List UInt8)), (0 ≤ c' ∧ c' ≤ c + 1) ∧ (-9223372036854775808 ≤ f' ∧ f' ≤ 9223372036854775807) ∧
      (∀ w1, DevAt w1 p l m n q c f d ls wt → Calls Try.prog 11 #[.pointer (some ⟨p, 0, none⟩)] w1 fun e w' => e = .returned (.int .i64 code) ∧ Fr [p, l, m] w1 w' ∧ DevAt w' p l m n q c' f' d' ls' wt') ∧
      (∀ w1, RefAt w1 r b n q' c (fuseOf f) d ls (fun j => secNow ls wt j) (fun j => (wt j).isSome) → Calls Try.prog 21 #[.pointer (some ⟨r, 0, none⟩)] w1 fun e w' => e = .returned (.int .i64 code) ∧ Fr [r, b] w1 w' ∧ RefAt w' r b n q' c' (fuseOf f') d' ls' (fun j => secNow ls' wt' j) (fun j => (wt' j).isSome)) := by
  have hg := h.rng
  cases d with
  | true =>
    refine ⟨50, c, f, true, ls, wt, by omega, hg, fun w1 hd => ?_, fun w1 hr => ?_⟩
    · exact (flush_dead w1 p l m n q c f ls wt hd).mono fun e w' ⟨he, hw⟩ => by subst hw; exact ⟨he, Fr.refl _ _, hd⟩
    · exact (rflush_dead w1 r b n q' c _ ls _ _ hr).mono fun e w' ⟨he, hw⟩ => by subst hw; exact ⟨he, Fr.refl _ _, hr⟩
  | false =>
    by_cases f0 : f = 0
    · subst f0
      refine ⟨50, c, 0, true, ls, wt, by omega, by omega, fun w1 hd => ?_, fun w1 hr => ?_⟩
      · exact (flush_burnt w1 p l m n q c ls wt hd hcb).mono fun e w' ⟨he, hf, hd'⟩ => ⟨he, hf.mono (by simp), hd'⟩
      · rw [fuse_nought] at hr ⊢
        exact (rflush_burnt w1 r b n q' c ls _ _ hr).mono fun e w' ⟨he, hf, hd'⟩ => ⟨he, hf.mono (by simp), hd'⟩
    · refine ⟨0, c + 1, burnF f, false, fun i : Nat => (wt (i : Int)).getD (ls i), fun _ => none, by omega, burn_rng hg, fun w1 hd => ?_, fun w1 hr => ?_⟩
      · exact flush_ok w1 p l m n q c f ls wt hd hcb hg f0
      · refine (rflush_ok w1 r b n q' c _ ls _ _ hr (fuse_rng hg) (fun e => f0 (fuse_zero.1 e)) hcb).mono fun e w' hx => ?_
        obtain ⟨he, hf, hr'⟩ := hx
        rw [fuse_step f0] at hr'
        exact ⟨he, hf, hr'.congr (fun _ _ => rfl) (fun j _ => by simp [secNow]) (fun j _ => by simp)⟩
set_option maxHeartbeats 1000000 in
theorem Tie.writeAny {w : World} {p l m q r b q' n : Nat} {c f : Int} {d : Bool} {ls : Nat → List UInt8} {wt : Int → Option (List UInt8)} (h : Tie w p l m q r b q' n c f d ls wt) (hcb : 0 ≤ c ∧ c < 9000000000000000000)
    (i : Int) (hi : -9223372036854775808 ≤ i ∧ i ≤ 9223372036854775807) (g cap k : Nat) (s : List UInt8) (hs : s.length = k) (hgp : g ≠ p) :
    ∃ (code c' f' : Int) (d' : Bool) (wt' : Int → Option (List UInt8)), (0 ≤ c' ∧ c' ≤ c + 1) ∧ (-9223372036854775808 ≤ f' ∧ f' ≤ 9223372036854775807) ∧
      (∀ w1, DevAt w1 p l m n q c f d ls wt → w1.rangeAt g 0 (cel s) → Calls Try.prog 12 #[.pointer (some ⟨p, 0, none⟩), .int .i64 i, .slice (some ⟨g, 0, none⟩) k cap] w1 fun e w' => e = .returned (.int .i64 code) ∧ Fr [p, m] w1 w' ∧ DevAt w' p l m n q c' f' d' ls wt') ∧
      (∀ w1, RefAt w1 r b n q' c (fuseOf f) d ls (fun j => secNow ls wt j) (fun j => (wt j).isSome) → Calls Try.prog 19 #[.pointer (some ⟨r, 0, none⟩), .int .i64 i, .string ⟨s.toArray⟩] w1 fun e w' => e = .returned (.int .i64 code) ∧ Fr [r, b] w1 w' ∧ RefAt w' r b n q' c' (fuseOf f') d' ls (fun j => secNow ls wt' j) (fun j => (wt' j).isSome)) := by
  have hg := h.rng
  cases d with
  | true =>
    refine ⟨50, c, f, true, wt, by omega, hg, fun w1 hd _ => ?_, fun w1 hr => ?_⟩
    · exact (write_dead w1 p l m n q c f ls wt hd i _).mono fun e w' ⟨he, hw⟩ => by subst hw; exact ⟨he, Fr.refl _ _, hd⟩
    · exact (rwrite_dead w1 r b n q' c _ ls _ _ hr i _).mono fun e w' ⟨he, hw⟩ => by subst hw; exact ⟨he, Fr.refl _ _, hr⟩
  | false =>
    by_cases hin : 0 ≤ i ∧ i < n ∧ k = 64
    · obtain ⟨h0, h1, h64⟩ := hin
      obtain ⟨j, rfl⟩ := Int.eq_ofNat_of_zero_le h0
      have hj : j < n := by omega
      subst h64
      by_cases f0 : f = 0
      · subst f0
        refine ⟨50, c, 0, true, wt, by omega, by omega, fun w1 hd _ => ?_, fun w1 hr => ?_⟩
        · exact (write_burnt w1 p l m n q c ls wt hd hcb j ⟨h0, h1⟩ _ _).mono fun e w' ⟨he, hf, hd'⟩ => ⟨he, hf.mono (by simp), hd'⟩
        · rw [fuse_nought] at hr ⊢
          exact (rwrite_burnt w1 r b n q' c ls _ _ hr j hj s hs).mono fun e w' ⟨he, hf, hd'⟩ => ⟨he, hf.mono (by simp), hd'⟩
      · refine ⟨0, c + 1, burnF f, false, wrote wt j s, by omega, burn_rng hg, fun w1 hd hrg => ?_, fun w1 hr => ?_⟩
        · exact write_ok w1 p l m n q c f ls wt hd hcb hg f0 j ⟨h0, h1⟩ g 0 cap s hs hrg hgp
        · refine (rwrite_ok w1 r b n q' c _ ls _ _ hr (fuse_rng hg) (fun e => f0 (fuse_zero.1 e)) hcb j hj s hs).mono fun e w' hx => ?_
          obtain ⟨he, hf, hr'⟩ := hx
          rw [fuse_step f0] at hr'
          refine ⟨he, hf, hr'.congr (fun _ _ => rfl) (fun x _ => ?_) (fun x _ => ?_)⟩
          · by_cases e : x = j
            · subst e; simp [secNow, wrote]
            · have e' : ¬ ((x : Int) = (j : Int)) := by omega
              simp [secNow, wrote, e, e']
          · by_cases e : x = j
            · subst e; simp [wrote]
            · have e' : ¬ ((x : Int) = (j : Int)) := by omega
              simp [wrote, e, e']
    · refine ⟨1, c, f, false, wt, by omega, hg, fun w1 hd _ => ?_, fun w1 hr => ?_⟩
      · exact (write_arg w1 p l m n q c f ls wt hd i hi _ k cap (by omega)).mono fun e w' ⟨he, hw⟩ => by subst hw; exact ⟨he, Fr.refl _ _, hd⟩
      · exact (rwrite_arg w1 r b n q' c _ ls _ _ hr i s k hs hin).mono fun e w' ⟨he, hw⟩ => by subst hw; exact ⟨he, Fr.refl _ _, hr⟩
set_option maxHeartbeats 1000000 in
theorem Tie.readAny {w : World} {p l m q r b q' n : Nat} {c f : Int} {d : Bool} {ls : Nat → List UInt8} {wt : Int → Option (List UInt8)} (h : Tie w p l m q r b q' n c f d ls wt) (hcb : 0 ≤ c ∧ c < 9000000000000000000)
    (i : Int) (hi : -9223372036854775808 ≤ i ∧ i ≤ 9223372036854775807) :
    ∃ (code c' : Int) (s : List UInt8), (0 ≤ c' ∧ c' ≤ c + 1) ∧ s.length ≤ 64 ∧
      (∀ w1, DevAt w1 p l m n q c f d ls wt → Calls Try.prog 9 #[.pointer (some ⟨p, 0, none⟩), .int .i64 i] w1 fun e w' => ∃ v, e = .returned (.tuple #[v, .int .i64 code]) ∧ Fr [p] w1 w' ∧ DevAt w' p l m n q c' f d ls wt ∧ w'.ownsRow w1.heap.size 5 1 v s.length (cel s)) ∧
      (∀ w1, RefAt w1 r b n q' c (fuseOf f) d ls (fun j => secNow ls wt j) (fun j => (wt j).isSome) → Calls Try.prog 20 #[.pointer (some ⟨r, 0, none⟩), .int .i64 i] w1 fun e w' => e = .returned (.tuple #[.string ⟨s.toArray⟩, .int .i64 code]) ∧ Fr [r] w1 w' ∧ RefAt w' r b n q' c' (fuseOf f) d ls (fun j => secNow ls wt j) (fun j => (wt j).isSome)) := by
  cases d with
  | true =>
    refine ⟨50, c, [], by omega, by simp, fun w1 hd => ?_, fun w1 hr => ?_⟩
    · exact (read_dead w1 p l m n q c f ls wt hd i).mono fun e w' ⟨he, hw⟩ => by subst hw; exact ⟨_, he, Fr.refl _ _, hd, World.ownsRow_nil _ _ _ _⟩
    · exact (rread_dead w1 r b n q' c _ ls _ _ hr i).mono fun e w' ⟨he, hw⟩ => by subst hw; exact ⟨he, Fr.refl _ _, hr⟩
  | false =>
    by_cases hin : 0 ≤ i ∧ i < n
    · obtain ⟨h0, h1⟩ := hin
      obtain ⟨j, rfl⟩ := Int.eq_ofNat_of_zero_le h0
      have hj : j < n := by omega
      have hl := sec_len h.dev hj
      refine ⟨0, c + 1, secNow ls wt j, by omega, by omega, fun w1 hd => ?_, fun w1 hr => ?_⟩
      · refine (read_ok w1 p l m n q c f ls wt hd hcb j hj).mono fun e w' hx => ?_
        obtain ⟨v, he, hf, hd', ho⟩ := hx
        exact ⟨v, he, hf, hd', by rw [hl]; exact ho⟩
      · exact rread_ok w1 r b n q' c _ ls _ _ hr hcb j hj
    · refine ⟨1, c, [], by omega, by simp, fun w1 hd => ?_, fun w1 hr => ?_⟩
      · exact (read_arg w1 p l m n q c f ls wt hd i hi hin).mono fun e w' ⟨he, hw⟩ => by subst hw; exact ⟨_, he, Fr.refl _ _, hd, World.ownsRow_nil _ _ _ _⟩
      · exact (rread_arg w1 r b n q' c _ ls _ _ hr i hin).mono fun e w' ⟨he, hw⟩ => by subst hw; exact ⟨he, Fr.refl _ _, hr⟩
end Go.Proofs.Ythjoakgcmelhmaa
