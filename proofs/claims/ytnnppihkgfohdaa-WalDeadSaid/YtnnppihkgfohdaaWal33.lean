/-
  wal: WalDead: any call of a store whose device may die.
-/
import Derived.Test.YtnnppihkgfohdaaWal32
namespace Go.Proofs.Ytnnppihkgfohdaa
open Go.RowKit Go.MapKept
/-- A store that holds itself for gone has a dead device; few sectors are written. -/
structure Tame (S : Sv) : Prop where
  gd : S.gone = true → S.v.d = true
  key : ∀ j t, S.U j = some t → 0 ≤ j ∧ j < 16
/-- One call more. -/
structure Step (S S' : Sv) (code : Int) : Prop where
  tame : Tame S'
  all : S'.all ≤ S.all + 1
  out : (S.v.d = true ∧ code = 50 ∧ S'.v.d = true) ∨ (S.v.d = false ∧ code = 0 ∧ S'.v.d = false) ∨ (S.v.d = false ∧ code = 50 ∧ S'.v.d = true)
theorem Tame.k {S : Sv} (h : Tame S) (hc : Card S.U S.k) : S.k ≤ 16 := by
  obtain ⟨ks, hn, hm, hl⟩ := hc
  rw [← hl]
  exact nodup_bound2 16 ks hn (fun x hx => by
    obtain ⟨t, ht⟩ := (hm x).1 hx
    have := h.key x t ht
    omega)
theorem Tame.gone {S : Sv} (h : Tame S) (hd : S.v.d = false) : S.gone = false := by
  cases hg : S.gone with
  | false => rfl
  | true => have := h.gd hg; rw [hd] at this; cases this
theorem Tame.dead {S : Sv} (h : Tame S) (hd : S.v.d = true) : Step S { S with gone := true } 50 := ⟨⟨fun _ => hd, h.key⟩, by simp only; omega, .inl ⟨hd, rfl, hd⟩⟩
/-- What a call makes of a store. -/
def Stepped (w : World) (bs : List Nat) (s p l m n q : Nat) (b : Int) (S : Sv) (e : Ending) (w' : World) : Prop :=
  ∃ bs' S' code, e = .returned (.int .i64 code) ∧ Fr bs w w' ∧ Grew w bs bs' ∧ StAt w' bs' s p l m n q (b + n + 400) S' ∧ Step S S' code
section
variable {w : World} {bs : List Nat} {s p l m n q : Nat} {b : Int} {S : Sv}
theorem step_dead {f : FuncId} {args : Array Value} (ht : Tame S) (hd : S.v.d = true)
    (h : Calls Try.prog f args w fun e w' => e = .returned (.int .i64 50) ∧ Fr bs w w' ∧ StAt w' bs s p l m n q b { S with gone := true }) : Calls Try.prog f args w (Stepped w bs s p l m n q b S) := by
  refine h.mono ?_
  rintro e w' ⟨rfl, hf, hst⟩
  exact ⟨bs, _, 50, rfl, hf, fun x hx => .inl hx, hst.more (by omega), ht.dead hd⟩
theorem t_write (h : StAt w bs s p l m n q b S) (ht : Tame S) (i : Nat) (hi : i < 16) (hin : 316 ≤ n) (g o cap : Nat) (x : List UInt8) (hx : x.length = 64) (hr : w.rangeAt g o (cel x)) (hgb : g ∉ bs) :
    Calls Try.prog 10 #[.pointer (some ⟨s, 0, none⟩), .int .i64 i, .slice (some ⟨g, o, none⟩) 64 cap] w (Stepped w bs s p l m n q b S) := by
  cases hd : S.v.d with
  | true => exact step_dead ht hd (st_write_dead h (by rw [hd]; simp) i _)
  | false =>
    have hk := ht.k h.card
    refine (st_write h (ht.gone hd) hd i (by omega) g o cap x hx hr hgb (.inr (by omega))).mono ?_
    rintro e w' ⟨rfl, hf, hst⟩
    refine ⟨bs, _, 0, rfl, hf, fun x hx => .inl hx, hst.more (by omega), ⟨⟨fun hg => (by simp only at hg; rw [ht.gone hd] at hg; cases hg), fun j t hj => ?_⟩, by simp only; omega, .inr (.inl ⟨hd, rfl, hd⟩)⟩⟩
    simp only [wrote] at hj
    split at hj
    · omega
    · exact ht.key j t hj
theorem settled_step (ht : Tame S) (hd : S.v.d = false) (kk : List Int) : ((S.settled kk).1 = 0 ∧ (S.settled kk).2.v.d = false ∧ Tame (S.settled kk).2 ∧ (S.settled kk).2.all = S.all ∧ (S.settled kk).2.U = S.U) ∨ ((S.settled kk).1 = 50 ∧ (S.settled kk).2.v.d = true ∧ Tame (S.settled kk).2 ∧ (S.settled kk).2.all = S.all) := by
  have he := Dv.settle_ends hd (overL S.Cs) kk S.all S.last
  unfold Sv.settled
  by_cases hc : (S.v.settle (overL S.Cs) kk S.all S.last).1 = 0
  · rw [if_pos hc]
    have hg := he.good hc
    exact .inl ⟨hc, hg, ⟨fun h => (by simp only at h; rw [ht.gone hd] at h; cases h), ht.key⟩, rfl, rfl⟩
  · rw [if_neg hc]
    have hb := he.bad hc
    exact .inr ⟨hb.1, hb.2, ⟨fun _ => hb.2, fun j t h => by cases h⟩, rfl⟩
theorem Tame.push {S : Sv} (h : Tame S) : Tame S.push ∧ S.push.v = S.v ∧ S.push.all = S.all + 1 := by
  unfold Sv.push
  split
  · exact ⟨⟨h.gd, fun j t h => by cases h⟩, rfl, rfl⟩
  · exact ⟨⟨h.gd, h.key⟩, rfl, rfl⟩
theorem t_commit (h : StAt w bs s p l m n q b S) (ht : Tame S) (hall : S.all < 9000000000000000000) (hb : b < 8999999999998000000) :
    Calls Try.prog 12 #[.pointer (some ⟨s, 0, none⟩)] w (Stepped w bs s p l m n q b S) := by
  cases hd : S.v.d with
  | true => exact step_dead ht hd (st_commit_dead h (by rw [hd]; simp))
  | false =>
    cases hc : S.crowd with
    | false =>
      refine (st_commit h (ht.gone hd) hd hc hall).mono ?_
      rintro e w' ⟨bs', rfl, hfr, hgr, hst⟩
      obtain ⟨h1, h2, h3⟩ := ht.push
      exact ⟨bs', _, 0, rfl, hfr, hgr, hst.more (by omega), ⟨h1, by omega, .inr (.inl ⟨hd, rfl, by rw [h2]; exact hd⟩)⟩⟩
    | true =>
      refine (st_commit_crowd h (ht.gone hd) hd hc hall hb).mono ?_
      rintro e w' ⟨bs', kk, hkk, rfl, hfr, hgr, hst⟩
      rcases settled_step ht hd kk with ⟨e1, h1, h2, h3, _⟩ | ⟨e1, h1, h2, h3⟩
      · rw [if_pos e1] at hst
        obtain ⟨g1, g2, g3⟩ := h2.push
        exact ⟨bs', _, _, rfl, hfr, hgr, hst, ⟨g1, by omega, .inr (.inl ⟨hd, e1, by rw [g2]; exact h1⟩)⟩⟩
      · rw [if_neg (by omega)] at hst
        exact ⟨bs', _, _, rfl, hfr, hgr, hst, ⟨h2, by omega, .inr (.inr ⟨hd, e1, h1⟩)⟩⟩
theorem t_sync (h : StAt w bs s p l m n q b S) (ht : Tame S) (hb : b < 8999999999998000000) :
    Calls Try.prog 13 #[.pointer (some ⟨s, 0, none⟩)] w (Stepped w bs s p l m n q b S) := by
  cases hd : S.v.d with
  | true => exact step_dead ht hd (st_sync_dead h (by rw [hd]; simp))
  | false =>
    by_cases h0 : S.Cs = []
    · refine (st_sync_none h (ht.gone hd) hd h0).mono ?_
      rintro e w' ⟨rfl, hfr, hst⟩
      exact ⟨bs, S, 0, rfl, hfr, fun x hx => .inl hx, hst.more (by omega), ⟨ht, by omega, .inr (.inl ⟨hd, rfl, hd⟩)⟩⟩
    · refine (st_sync h (ht.gone hd) hd (List.length_pos_iff.2 h0) hb).mono ?_
      rintro e w' ⟨bs', kk, hkk, rfl, hfr, hgr, hst⟩
      rcases settled_step ht hd kk with ⟨e1, h1, h2, h3, _⟩ | ⟨e1, h1, h2, h3⟩
      · exact ⟨bs', _, _, rfl, hfr, hgr, hst, ⟨h2, by omega, .inr (.inl ⟨hd, e1, h1⟩)⟩⟩
      · exact ⟨bs', _, _, rfl, hfr, hgr, hst, ⟨h2, by omega, .inr (.inr ⟨hd, e1, h1⟩)⟩⟩
end
end Go.Proofs.Ytnnppihkgfohdaa
