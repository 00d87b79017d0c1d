/-
  wal: a store whose device neither dies nor has a fuse.
-/
import Derived.Test.YtoifpbifipgpkaaWal26
import Derived.Test.YtoifpbifipgpkaaWal27
namespace Go.Proofs.Ytoifpbifipgpkaa
open Go.RowKit Go.MapKept
section
variable {w : World} {bs : List Nat} {s p l m n q : Nat} {b : Int} {S : Sv}
theorem st_commit_crowd (h : StAt w bs s p l m n q b S) (hg : S.gone = false) (hv : S.v.d = false) (hc : S.crowd = true) (hall : S.all < 9000000000000000000) (hb : b < 8999999999998000000) :
    Calls Try.prog 15 #[.pointer (some ⟨s, 0, none⟩)] w fun e w' => ∃ bs' kk, KeysOf (overL S.Cs) kk ∧ e = .returned (.int .i64 (S.settled kk).1) ∧ Fr bs w w' ∧ Grew w bs bs' ∧ StAt w' bs' s p l m n q (b + n + 400) (if (S.settled kk).1 = 0 then (S.settled kk).2.push else (S.settled kk).2) := by
  obtain ⟨u, wv, ms, B, hl⟩ := h.lies
  obtain ⟨K, hK2, hK⟩ := h.overCard
  have hlow := hl.low
  have hbx := hl.box
  rw [hg] at hbx
  have hks : ∀ x ∈ S.ks, x ≤ 8192 := fun x hx => by have := h.k1 x hx; omega
  have hlk : ms.length = S.ks.length := by rw [hl.len, h.klen]
  have hl16 : ms.length ≤ 16 := by rw [hl.len]; exact h.c16
  have hcr : (decide (ms.length = 16) || decide (256 < S.k + S.ks.sum)) = true := by rw [hl.len]; exact hc
  have hwb : ∀ k, wv.ownBlock = some k → k ≠ s := fun k hk => (hl.row hk).1
  have hmj : ∀ j, j < ms.length → ChAt w (ms.getD j 0) n (S.Cs.getD j (fun _ => none)) ∧ Card (S.Cs.getD j (fun _ => none)) (S.ks.getD j 0) ∧ ms.getD j 0 ≠ s := fun j hj => ⟨hl.wts j hj, h.cards j (by rw [← hl.len]; exact hj), (hl.msep _ (getD_mem hj)).1⟩
  by_cases hk : 0 < S.k
  · refine (commit_crowd_full w s p u l m n q wv S.all S.last b S.v hbx h.dev hb h.n300 hv h.sep S.k (MapOf.card hl.und h.card) ⟨hk, h.k128⟩ hl.usep B hl.top.2.2.2.2 hl.top.1 ms S.ks S.Cs hlk hl.len hl16 hl.own hwb hmj hks hcr _ rfl K hK hK2 ⟨h.cnt, hall⟩).mono ?_
    rintro e w' ⟨kk, hkk, rfl, hbad, hgood⟩
    by_cases hcc : (S.v.settle (overL S.Cs) kk S.all S.last).1 = 0
    · obtain ⟨u', wv', hu', hb', hm', ho', hf, hd, hat⟩ := hgood hcc
      have hS : S.settled kk = (0, { S with v := (S.v.settle (overL S.Cs) kk S.all S.last).2.1, Cs := [], ks := [], last := (S.v.settle (overL S.Cs) kk S.all S.last).2.2 }) := by unfold Sv.settled; rw [if_pos hcc, hcc]
      have hsz := hf.size
      refine ⟨u' :: (wv'.ownBlock.toList ++ bs), kk, hkk, by rw [hS, hcc], hl.fr4 hf, fun x hx => ?_, ?_⟩
      · simp only [List.mem_cons, List.mem_append, Option.mem_toList] at hx
        rcases hx with rfl | hx | hx
        · exact .inr hu'
        · exact .inr (hat x hx)
        · exact .inl hx
      · rw [hS]
        simp only [if_true]
        unfold Sv.push
        rw [if_pos hk]
        refine ⟨⟨u', wv', [u], B, ⟨by simpa [hg] using hb', ⟨hm', fun i s h => by cases h⟩, ho', ?_, by simp, ?_, by omega, ?_, ?_, ?_, ?_⟩⟩, hd, h.sep, Card.empty, by simp, by simp, ?_, ?_, ?_, by simp, h.n300, ?_⟩
        · have := hl.top; exact ⟨this.1, this.2.1, this.2.2.1, this.2.2.2.1, by omega⟩
        · intro j hj
          obtain rfl : j = 0 := by simpa using hj
          exact hl.und.keep hf (by have := hl.usep; simp; omega)
        · intro x hx
          obtain rfl : x = u := by simpa using hx
          have := hl.usep; omega
        · exact ⟨by simp [hl.bs4.1], by simp [hl.bs4.2.1], by simp [hl.bs4.2.2.1], by simp [hl.bs4.2.2.2.1], by simp⟩
        · intro x hx
          obtain rfl : x = u := by simpa using hx
          simp [hl.bs4.2.2.2.2]
        · intro g hg; simp [hg]
        · intro j hj
          obtain rfl : j = 0 := by simpa using hj
          exact h.card
        · intro x hx
          obtain rfl : x = S.k := by simpa using hx
          exact h.k128
        · have := h.k128; simp; omega
        · have := h.cnt; simp only; omega
    · obtain ⟨u', hu', hmu, hbu, hf, hd⟩ := hbad hcc
      have hS : S.settled kk = ((S.v.settle (overL S.Cs) kk S.all S.last).1, { S with v := (S.v.settle (overL S.Cs) kk S.all S.last).2.1, U := fun _ => none, k := 0, Cs := [], ks := [], last := (S.v.settle (overL S.Cs) kk S.all S.last).2.2, gone := true }) := by unfold Sv.settled; rw [if_neg hcc]
      refine ⟨u' :: bs, kk, hkk, by rw [hS], hl.fr4 hf, hl.grew (.inr hu'), ?_⟩
      rw [hS]
      rw [if_neg hcc]
      exact h.empty ⟨_, _, _, _, hl.settled hf hbu ⟨hmu, fun i s h => by cases h⟩ (.inr hu') rfl⟩ hd Card.empty (by simp) rfl rfl h.cnt
  · have hk0 : S.k = 0 := by omega
    have hcd := h.card
    rw [hk0] at hcd hcr
    refine (commit_crowd_none w s p u l m n q wv S.all S.last b S.v hbx h.dev hb h.n300 hv h.sep (MapOf.card hl.und hcd) hl.usep B hl.top.2.2.2.2 hl.top.1 ms S.ks S.Cs hlk hl.len hl16 hl.own hwb hmj hks hcr _ rfl K hK hK2 ⟨h.cnt, hall⟩).mono ?_
    rintro e w' ⟨kk, hkk, rfl, hbad, hgood⟩
    by_cases hcc : (S.v.settle (overL S.Cs) kk S.all S.last).1 = 0
    · obtain ⟨hb', hf, hd⟩ := hgood hcc
      have hS : S.settled kk = (0, { S with v := (S.v.settle (overL S.Cs) kk S.all S.last).2.1, Cs := [], ks := [], last := (S.v.settle (overL S.Cs) kk S.all S.last).2.2 }) := by unfold Sv.settled; rw [if_pos hcc, hcc]
      have hu := hl.und.keep hf (by have := hl.usep; simp; omega)
      have hcnt := h.cnt
      refine ⟨u :: bs, kk, hkk, by rw [hS, hcc], hl.fr4 hf, hl.grew (.inl rfl), ?_⟩
      rw [hS]
      simp only [if_true]
      unfold Sv.push
      rw [if_neg hk]
      exact h.empty ⟨_, _, _, _, hl.settled hf (by simpa [hg] using hb') hu (.inl rfl) rfl⟩ hd h.card h.k128 rfl rfl (by simp only; omega)
    · obtain ⟨u', hu', hmu, hbu, hf, hd⟩ := hbad hcc
      have hS : S.settled kk = ((S.v.settle (overL S.Cs) kk S.all S.last).1, { S with v := (S.v.settle (overL S.Cs) kk S.all S.last).2.1, U := fun _ => none, k := 0, Cs := [], ks := [], last := (S.v.settle (overL S.Cs) kk S.all S.last).2.2, gone := true }) := by unfold Sv.settled; rw [if_neg hcc]
      refine ⟨u' :: bs, kk, hkk, by rw [hS], hl.fr4 hf, hl.grew (.inr hu'), ?_⟩
      rw [hS]
      rw [if_neg hcc]
      exact h.empty ⟨_, _, _, _, hl.settled hf hbu ⟨hmu, fun i s h => by cases h⟩ (.inr hu') rfl⟩ hd Card.empty (by simp) rfl rfl h.cnt
theorem overL_mem (Cs : List (Int → Option (List UInt8))) {i : Int} {t : List UInt8} (h : overL Cs i = some t) : ∃ j, j < Cs.length ∧ Cs.getD j (fun _ => none) i = some t := by
  have key : ∀ j, j ≤ Cs.length → overL (Cs.take j) i = some t → ∃ j', j' < Cs.length ∧ Cs.getD j' (fun _ => none) i = some t := by
    intro j
    induction j with
    | zero => intro _ h; simp [overL] at h
    | succ j ih =>
      intro hj h
      rw [overL_take Cs (by omega)] at h
      unfold over at h
      cases hc : Cs.getD j (fun _ => none) i with
      | none => rw [hc] at h; exact ih (by omega) h
      | some t' => rw [hc] at h; exact ⟨j, by omega, by rw [hc]; exact h⟩
  exact key Cs.length (Nat.le_refl _) (by rw [List.take_length]; exact h)
theorem StAt.overDom (h : StAt w bs s p l m n q b S) {i : Int} {t : List UInt8} (hi : overL S.Cs i = some t) : 0 ≤ i ∧ i + 300 < n ∧ t.length = 64 := by
  obtain ⟨u, wv, ms, B, hl⟩ := h.lies
  obtain ⟨j, hj, ht⟩ := overL_mem S.Cs hi
  exact (hl.wts j (by rw [hl.len]; exact hj)).dom i t ht
theorem StAt.keyLen (h : StAt w bs s p l m n q b S) {kk : List Int} (hk : KeysOf (overL S.Cs) kk) : kk.length ≤ 256 := by
  obtain ⟨K, h1, h2⟩ := h.overCard
  rw [hk.len h2]; exact h1
end
/-- Nothing waits on the device, the head is 0; it neither dies nor burns. -/
structure Fit (S : Sv) : Prop where
  gone : S.gone = false
  live : Live S.v
  wt : S.v.wt = fun _ => none
  head : numAt (S.v.ls 0) 0 = 0
  lst : S.Cs = [] → S.last = S.all
  cnt : 0 ≤ S.last ∧ S.last ≤ S.all
/-- The device behind a settle. -/
structure Homed (v : Dv) (C : Int → Option (List UInt8)) (v' : Dv) : Prop where
  live : Live v'
  f : v'.f = v.f
  wt : v'.wt = fun _ => none
  head : numAt (v'.ls 0) 0 = 0
  home : ∀ i : Nat, v'.ls (300 + i) = (C i).getD (v.ls (300 + i))
theorem Home.homed {v v' : Dv} {C : Int → Option (List UInt8)} (h : Home v C v') : Homed v C v' := ⟨h.live, h.f, h.wt, by rw [h.head]; exact numAt_zero, h.home⟩
/-- All that waits is lasting. -/
def Settled (S S1 : Sv) : Prop := ∃ v', Homed S.v (overL S.Cs) v' ∧ S1 = { S with v := v', Cs := [], ks := [], last := S.all }
theorem Fit.settled {S S1 : Sv} (h : Fit S) (hs : Settled S S1) : Fit S1 := by
  obtain ⟨v', hv, rfl⟩ := hs
  exact ⟨h.gone, hv.live, hv.wt, hv.head, fun _ => rfl, by have := h.cnt; simp only; omega⟩
theorem Fit.push {S : Sv} (h : Fit S) : Fit S.push := by
  have hc := h.cnt
  unfold Sv.push
  split
  · exact ⟨h.gone, h.live, h.wt, h.head, fun e => by simp at e, by simp only; omega⟩
  · refine ⟨h.gone, h.live, h.wt, h.head, fun e => ?_, ?_⟩
    · simp only at e ⊢
      rw [e]; rfl
    · simp only
      split <;> omega
theorem Fit.text {S : Sv} (h : Fit S) (i : Nat) : S.v.text i = S.v.ls i := by
  unfold Dv.text
  rw [h.live.d]
  simp [secNow, h.wt]
theorem Homed.tell {S S1 : Sv} (h : Fit S) (hs : Settled S S1) (i : Nat) : S1.tell i = S.tell i := by
  have h1 := h.settled hs
  obtain ⟨v', hv, rfl⟩ := hs
  unfold Sv.tell
  rw [h.text, h1.text]
  simp only
  rw [hv.home]
  cases S.U i with
  | some t => rfl
  | none =>
    show (overL [] (i : Int)).getD _ = _
    rfl
theorem Fit.push_tell {S : Sv} (i : Nat) : S.push.tell i = S.tell i := by
  unfold Sv.push
  split
  · unfold Sv.tell
    simp only
    rw [overL_snoc]
    unfold over
    rfl
  · rfl
section
variable {w : World} {bs : List Nat} {s p l m n q : Nat} {b : Int} {S : Sv}
theorem StAt.settles (h : StAt w bs s p l m n q b S) (hf : Fit S) {kk : List Int} (hk : KeysOf (overL S.Cs) kk) : ∃ S1, S.settled kk = (0, S1) ∧ Settled S S1 := by
  obtain ⟨v', e, hv⟩ := hf.live.settle hf.wt hk (fun i t ht => (h.overDom ht).1) (h.keyLen hk) S.all S.last
  refine ⟨_, ?_, v', hv.homed, rfl⟩
  unfold Sv.settled
  rw [e]
  simp
/-- A Commit that goes well. -/
theorem fit_commit (h : StAt w bs s p l m n q b S) (hf : Fit S) (hall : S.all < 9000000000000000000) (hb : b < 8999999999998000000) :
    Calls Try.prog 15 #[.pointer (some ⟨s, 0, none⟩)] w fun e w' => ∃ bs' S1, e = .returned (.int .i64 0) ∧ Fr bs w w' ∧ Grew w bs bs' ∧ (S1 = S ∨ Settled S S1) ∧ StAt w' bs' s p l m n q (b + n + 400) S1.push := by
  cases hc : S.crowd with
  | false =>
    refine (st_commit h hf.gone hf.live.d hc hall).mono ?_
    rintro e w' ⟨bs', rfl, hfr, hgr, hst⟩
    exact ⟨bs', S, rfl, hfr, hgr, .inl rfl, hst.more (by omega)⟩
  | true =>
    refine (st_commit_crowd h hf.gone hf.live.d hc hall hb).mono ?_
    rintro e w' ⟨bs', kk, hkk, rfl, hfr, hgr, hst⟩
    obtain ⟨S1, e1, hs1⟩ := h.settles hf hkk
    rw [e1] at hst ⊢
    exact ⟨bs', S1, rfl, hfr, hgr, .inr hs1, by simpa using hst⟩
/-- A Sync that goes well. -/
theorem fit_sync (h : StAt w bs s p l m n q b S) (hf : Fit S) (hb : b < 8999999999998000000) :
    Calls Try.prog 16 #[.pointer (some ⟨s, 0, none⟩)] w fun e w' => ∃ bs' S1, e = .returned (.int .i64 0) ∧ Fr bs w w' ∧ Grew w bs bs' ∧ Settled S S1 ∧ StAt w' bs' s p l m n q (b + n + 400) S1 := by
  by_cases h0 : S.Cs = []
  · refine (st_sync_none h hf.gone hf.live.d h0).mono ?_
    rintro e w' ⟨rfl, hfr, hst⟩
    have hks : S.ks = [] := List.eq_nil_of_length_eq_zero (by rw [h.klen, h0]; rfl)
    refine ⟨bs, S, rfl, hfr, fun x hx => .inl hx, ⟨S.v, ⟨hf.live, rfl, hf.wt, hf.head, fun i => by rw [h0]; rfl⟩, ?_⟩, hst.more (by omega)⟩
    have hl := hf.lst h0
    obtain ⟨v, U, k, Cs, ks, all, last, gone⟩ := S
    simp only at h0 hks hl
    subst h0; subst hks; subst hl
    rfl
  · refine (st_sync h hf.gone hf.live.d (List.length_pos_iff.2 h0) hb).mono ?_
    rintro e w' ⟨bs', kk, hkk, rfl, hfr, hgr, hst⟩
    obtain ⟨S1, e1, hs1⟩ := h.settles hf hkk
    rw [e1] at hst ⊢
    exact ⟨bs', S1, rfl, hfr, hgr, hs1, hst⟩
end
end Go.Proofs.Ytoifpbifipgpkaa
