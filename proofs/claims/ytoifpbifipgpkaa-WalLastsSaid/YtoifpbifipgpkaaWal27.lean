/-
  wal: what settles without a failure.
-/
import Derived.Test.YtoifpbifipgpkaaWal25
namespace Go.Proofs.Ytoifpbifipgpkaa
open Go.RowKit Go.MapKept
/-- It lives, and has no fuse. -/
structure Live (v : Dv) : Prop where
  d : v.d = false
  f : v.f < 0
theorem Live.ne {v : Dv} (h : Live v) : ¬ v.f = 0 := fun e => by have := h.f; omega
theorem Live.burn {v : Dv} (h : Live v) : burnF v.f = v.f := by unfold burnF; rw [if_neg (by have := h.f; omega)]
theorem Live.write {v : Dv} (h : Live v) (i : Int) (s : List UInt8) : v.write i s = (0, ⟨v.c + 1, v.f, false, v.ls, wrote v.wt i s⟩) := by
  unfold Dv.write
  rw [h.d, if_neg (by simp), if_neg h.ne, h.burn]
theorem Live.flush {v : Dv} (h : Live v) : v.flush = (0, ⟨v.c + 1, v.f, false, fun i : Nat => (v.wt (i : Int)).getD (v.ls i), fun _ => none⟩) := by
  unfold Dv.flush
  rw [h.d, if_neg (by simp), if_neg h.ne, h.burn]
/-- Sectors written one behind the other. -/
structure Put (v : Dv) (f : Int → List UInt8) (o : Int) (ks : List Int) (v' : Dv) : Prop where
  live : Live v'
  fu : v'.f = v.f
  ls : v'.ls = v.ls
  out : ∀ j, (∀ x ∈ ks, o + x ≠ j) → v'.wt j = v.wt j
  inn : ∀ x ∈ ks, v'.wt (o + x) = some (f x)
theorem Live.puts {f : Int → List UInt8} {o : Int} : ∀ (ks : List Int) (v : Dv), Live v → ks.Nodup → ∃ v', v.puts f o ks = (0, v') ∧ Put v f o ks v'
  | [], v, h, _ => ⟨v, rfl, h, rfl, rfl, fun _ _ => rfl, fun x hx => by cases hx⟩
  | i :: is, v, h, hn => by
    have hw := h.write (o + i) (f i)
    have hl : Live ⟨v.c + 1, v.f, false, v.ls, wrote v.wt (o + i) (f i)⟩ := ⟨rfl, h.f⟩
    obtain ⟨v', hp, q⟩ := Live.puts is _ hl (List.nodup_cons.1 hn).2
    refine ⟨v', by simp only [Dv.puts]; rw [hw]; simpa using hp, q.live, q.fu, q.ls, fun j hj => ?_, fun x hx => ?_⟩
    · rw [q.out j (fun x hx => hj x (by simp [hx]))]
      have := hj i (by simp)
      simp only [wrote]
      rw [if_neg (by omega)]
    · rcases List.mem_cons.1 hx with rfl | hx
      · rw [q.out _ (fun y hy e => (List.nodup_cons.1 hn).1 (by rw [show x = y by omega]; exact hy))]
        simp [wrote]
      · exact q.inn x hx
theorem Live.head {v : Dv} (h : Live v) (N : Int) : v.head N = (0, ⟨v.c + 2, v.f, false, fun i : Nat => (if i = 0 then some (asK [N] 1) else v.wt (i : Int)).getD (v.ls i), fun _ => none⟩) := by
  unfold Dv.head
  rw [h.write]
  simp only [if_true]
  have e := Live.flush (v := ⟨v.c + 1, v.f, false, v.ls, wrote v.wt ((0 : Nat) : Int) (asK [N] 1)⟩) ⟨rfl, h.f⟩
  rw [e]
  simp only [wrote]
  congr 1
  congr 1
  · omega
  · funext i
    by_cases hi : i = 0
    · simp [hi]
    · simp [hi]
/-- A settle without a failure: nothing waits, the head is 0, and what was to come home is home. -/
structure Home (v : Dv) (C : Int → Option (List UInt8)) (v' : Dv) : Prop where
  live : Live v'
  f : v'.f = v.f
  wt : v'.wt = fun _ => none
  head : v'.ls 0 = asK [0] 1
  home : ∀ i : Nat, v'.ls (300 + i) = (C i).getD (v.ls (300 + i))
theorem places_nodup (K : Nat) : (places K).Nodup := by
  unfold places
  exact List.Pairwise.map _ (fun a b h e => h (by have e' : (a : Int) = (b : Int) := e; omega)) List.nodup_range
theorem Live.settle {v : Dv} (h : Live v) (hw : v.wt = fun _ => none) {C : Int → Option (List UInt8)} {ks : List Int} (hk : KeysOf C ks) (hdom : ∀ i s, C i = some s → 0 ≤ i) (hK : ks.length ≤ 256) (all last : Int) :
    ∃ v', v.settle C ks all last = (0, v', all) ∧ Home v C v' := by
  obtain ⟨v1, e1, q1⟩ := Live.puts (f := fun i => txt C (ks.getD i.toNat 0)) (o := 9) (places ks.length) v h (places_nodup _)
  obtain ⟨v2, e2, q2⟩ := Live.puts (f := fun i => asK (pieceL ks i.toNat) (pieceL ks i.toNat).length) (o := 1) (places ((ks.length + 31) / 32)) v1 q1.live (places_nodup _)
  have e3 := q2.live.flush
  obtain ⟨v3, hv3⟩ : ∃ v3 : Dv, v3 = ⟨v2.c + 1, v2.f, false, fun i : Nat => (v2.wt (i : Int)).getD (v2.ls i), fun _ => none⟩ := ⟨_, rfl⟩
  rw [← hv3] at e3
  have hlog : v.log C ks = (0, v3) := by
    unfold Dv.log
    rw [e1]
    simp only [if_true]
    rw [e2]
    simp only [if_true]
    exact e3
  have h3 : Live v3 := by rw [hv3]; exact ⟨rfl, q2.live.f⟩
  have hls3 : ∀ i : Nat, v3.ls (300 + i) = v.ls (300 + i) := fun i => by
    rw [hv3]
    simp only
    rw [q2.out _ (fun x hx => by obtain ⟨j, hj, rfl⟩ := places_mem hx; omega), q1.out _ (fun x hx => by obtain ⟨j, hj, rfl⟩ := places_mem hx; omega), hw, q2.ls, q1.ls]
    rfl
  have e4 := h3.head ks.length
  obtain ⟨v4, hv4⟩ : ∃ v4 : Dv, v4 = ⟨v3.c + 2, v3.f, false, fun i : Nat => (if i = 0 then some (asK [(ks.length : Int)] 1) else v3.wt (i : Int)).getD (v3.ls i), fun _ => none⟩ := ⟨_, rfl⟩
  rw [← hv4] at e4
  have h4 : Live v4 := by rw [hv4]; exact ⟨rfl, h3.f⟩
  have hls4 : ∀ i : Nat, v4.ls (300 + i) = v.ls (300 + i) := fun i => by
    rw [hv4]
    simp only
    rw [if_neg (by omega), ← hls3 i, hv3]
    rfl
  have hwt4 : v4.wt = fun _ => none := by rw [hv4]
  obtain ⟨v5, e5, q5⟩ := Live.puts (f := txt C) (o := 300) ks v4 h4 hk.nd
  have e6 := q5.live.flush
  obtain ⟨v6, hv6⟩ : ∃ v6 : Dv, v6 = ⟨v5.c + 1, v5.f, false, fun i : Nat => (v5.wt (i : Int)).getD (v5.ls i), fun _ => none⟩ := ⟨_, rfl⟩
  rw [← hv6] at e6
  have h6 : Live v6 := by rw [hv6]; exact ⟨rfl, q5.live.f⟩
  have hls6 : ∀ i : Nat, v6.ls (300 + i) = (C i).getD (v.ls (300 + i)) := fun i => by
    rw [hv6]
    simp only
    cases hc : C i with
    | none =>
      rw [q5.out _ (fun x hx e => by
        obtain ⟨s, hs⟩ := (hk.mem x).1 hx
        rw [show x = (i : Int) by omega, hc] at hs
        cases hs), hwt4, q5.ls, hls4]
    | some t =>
      have := q5.inn i ((hk.mem i).2 ⟨t, hc⟩)
      rw [show ((300 + i : Nat) : Int) = 300 + (i : Int) by omega, this]
      simp [txt, hc]
  have e7 := h6.head 0
  refine ⟨⟨v6.c + 2, v6.f, false, fun i : Nat => (if i = 0 then some (asK [0] 1) else v6.wt (i : Int)).getD (v6.ls i), fun _ => none⟩, ?_, ?_⟩
  · unfold Dv.settle
    rw [hlog]
    simp only [if_true]
    rw [e4]
    simp only [if_true]
    have : v4.home C ks = v6.head 0 := by
      unfold Dv.home
      rw [e5]
      simp only [if_true]
      rw [e6]
      simp only [if_true]
    rw [this, e7]
  · refine ⟨⟨rfl, h6.f⟩, ?_, rfl, rfl, fun i => ?_⟩
    · show v6.f = v.f
      rw [hv6]
      show v5.f = v.f
      rw [q5.fu, hv4]
      show v3.f = v.f
      rw [hv3]
      show v2.f = v.f
      rw [q2.fu, q1.fu]
    · simp only
      rw [if_neg (by omega), hv6]
      have := hls6 i
      rw [hv6] at this
      simpa using this
theorem numAt_zero : numAt (asK [0] 1) 0 = 0 := by decide
end Go.Proofs.Ytoifpbifipgpkaa
