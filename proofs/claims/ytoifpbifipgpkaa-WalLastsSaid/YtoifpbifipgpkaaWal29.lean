/-
  wal: the statements' helpers: a new store; what the document fixes comes out.
-/
import Derived.Test.YtoifpbifipgpkaaWal28
import Derived.Test.YtoifpbifipgpkaaWalB
import Derived.Test.YtoifpbifipgpkaaDevCrash
namespace Go.Proofs.Ytoifpbifipgpkaa
open Go.RowKit Go.MapKept
section
variable {w : World} {bs : List Nat} {s p l m n q : Nat} {b : Int} {S : Sv}
theorem st_size (h : StAt w bs s p l m n q b S) : Calls Try.prog 49 #[.pointer (some ⟨s, 0, none⟩)] w fun e w' => e = .returned (.int .i64 (roomI n)) ∧ w = w' := by
  obtain ⟨u, wv, ms, B, hl⟩ := h.lies
  exact ssize_calls w s p u wv S.all S.last S.gone hl.box l m n q b S.v h.dev
/-- Only blocks that there are. -/
theorem StAt.trim (h : StAt w bs s p l m n q b S) : ∃ bs', (∀ x ∈ bs', x ∈ bs ∧ x < w.heap.size) ∧ StAt w bs' s p l m n q b S := by
  obtain ⟨u, wv, ms, B, hl⟩ := h.lies
  have hlow := hl.low
  have key : ∀ x, x ∈ bs → x < w.heap.size → x ∈ bs.filter (· < w.heap.size) := fun x h1 h2 => by simp [h1, h2]
  refine ⟨bs.filter (· < w.heap.size), fun x hx => by simpa using hx, ⟨⟨u, wv, ms, B, ⟨hl.box, hl.und, hl.own, hl.top, hl.len, hl.wts, hl.usep, hl.msep, ⟨key _ hl.bs4.1 hlow.1, key _ hl.bs4.2.1 hlow.2.1, key _ hl.bs4.2.2.1 hlow.2.2.1, key _ hl.bs4.2.2.2.1 hlow.2.2.2.1, key _ hl.bs4.2.2.2.2 hlow.2.2.2.2.1⟩,
    fun x hx => key _ (hl.bsm x hx) (hlow.2.2.2.2.2 x hx), fun g hg => key _ (hl.bsr g hg) (own_B hl.own hg).2.1⟩⟩, h.dev, h.sep, h.card, h.k128, h.klen, h.cards, h.k1, h.room, h.c16, h.n300, h.cnt⟩⟩
end
theorem Card.zero {U : Int → Option (List UInt8)} (h : Card U 0) : U = fun _ => none := by
  obtain ⟨ks, _, hm, hl⟩ := h
  obtain rfl := List.eq_nil_of_length_eq_zero hl
  funext x
  cases hx : U x with
  | none => rfl
  | some t => exact absurd ((hm x).2 ⟨t, hx⟩) (by simp)
theorem Sv.push_U {S : Sv} (h : Card S.U S.k) : S.push.U = fun _ => none := by
  unfold Sv.push
  split
  · rfl
  · rename_i hk
    have e : S.k = 0 := by omega
    rw [e] at h
    exact h.zero
/-- A store without a change tells what the device bears. -/
theorem Fit.tell_ls {S : Sv} (h : Fit S) (hU : S.U = fun _ => none) (hC : S.Cs = []) (i : Nat) : S.tell i = S.v.ls (300 + i) := by
  unfold Sv.tell
  rw [h.text, hU, hC]
  rfl
theorem Fit.new {v : Dv} (hl : Live v) (hw : v.wt = fun _ => none) (hh : numAt (v.ls 0) 0 = 0) : Fit (Sv.new v) := ⟨rfl, hl, hw, hh, fun _ => rfl, by simp [Sv.new]⟩
theorem dcrash_none (w : World) (p l m n q : Nat) (b : Int) (v : Dv) (h : DvAt w p l m n q b v) :
    Calls Try.prog 18 #[.pointer (some ⟨p, 0, none⟩), .bool false, .slice none 0 0] w fun e w' => ∃ m', e = .returned (.tuple #[]) ∧ Fr [p, l, m] w w' ∧ (m' = m ∨ w.heap.size ≤ m') ∧ DvAt w' p l m' n q b ⟨v.c, -1, false, v.ls, fun _ => none⟩ := by
  refine (crash_calls w p l m n q v.c v.f v.d v.ls v.wt h.at_ false none 0 0 [] ⟨by simp, fun h => absurd h (by simp)⟩ (by omega) (fun h => absurd h (by simp))).mono ?_
  rintro e w' ⟨rfl, hf, m', hm', hd⟩
  refine ⟨m', rfl, hf, hm', ⟨?_, h.cb, by simp⟩⟩
  have e : (fun i : Nat => ((if false = true then without v.wt [] 0 else among v.wt [] 0) (i : Int)).getD (v.ls i)) = v.ls := by
    funext i
    simp [among]
  simp only at hd ⊢
  rw [e] at hd
  exact hd
theorem numAt_zeros : numAt zeros 0 = 0 := by decide
/-- The store that the statements' Open makes. -/
def v0 (c : Int) : Dv := ⟨c, -1, false, fun _ => zeros, fun _ => none⟩
theorem fit0 (c : Int) : Fit (Sv.new (v0 c)) := Fit.new ⟨rfl, by simp [v0]⟩ rfl numAt_zeros
set_option maxHeartbeats 2000000 in
theorem lopen_calls (w : World) (n : Nat) (hn : 300 < n) (hn2 : n ≤ 8192) :
    Calls Try.prog 12 #[.int .i64 n] w fun e w' => ∃ p l m s bs c, e = .returned (.tuple #[.pointer (some ⟨p, 0, none⟩), .pointer (some ⟨s, 0, none⟩)]) ∧ Fr [] w w' ∧ (∀ x ∈ bs, w.heap.size ≤ x ∧ x < w'.heap.size) ∧ StAt w' bs s p l m n n 1 (Sv.new (v0 c)) := by
  have HN := Lib.hid (new_ok w n hn2)
  go_enter Try.func12, Try.ntmps12
  go_wp2_with fail
  refine HN.out.mono ?_
  rintro e w1 ⟨p, l, m, rfl, hf1, hp, hl, hm, hd⟩
  have hop := st_open w1 p l m n n 0 ⟨0, -1, false, fun _ => zeros, fun _ => none⟩ ⟨hd, by simp, by simp⟩ (by omega) hn ⟨rfl, rfl, numAt_zeros⟩
  have HOP := Lib.hid hop; have HF1 := Lib.hid hf1
  clear hop hd hf1 HN
  go_wp2_with fail
  refine HOP.out.mono ?_
  rintro e w2 ⟨s, bs, rfl, hf2, hs, hbs, hst⟩
  obtain ⟨bs', htr, hst'⟩ := hst.trim
  have hsz := HF1.out.size
  have HST := Lib.hid hst'; have HF := Lib.hid (HF1.out.trans_new hf2 (fun x hx => by simp at hx; subst hx; exact .inr hp))
  have hbs' : ∀ x ∈ bs', w.heap.size ≤ x ∧ x < w2.heap.size := fun x hx => by
    have h1 := htr x hx
    have h2 := hbs x h1.1
    omega
  have HBS := Lib.hid hbs'
  clear hst hst' hf2 hbs htr hbs' HOP
  go_wp2_with fail
  go_ret2
  exact ⟨p, l, m, s, bs', _, rfl, HF.out, HBS.out, HST.out⟩
/-- What 64 bytes read as. -/
theorem StrB.b64 {w : World} {B : Nat} {x : Value} {T : List UInt8} (hT : T.length = 64) (h : Bytes64 w B x T) : ∃ g cap, x = .slice (some ⟨g, 0, none⟩) 64 cap ∧ StrB w x ⟨T.toArray⟩ := by
  obtain ⟨g, cap, cur, t, rfl, _, hb, _, ht⟩ := h
  refine ⟨g, cap, rfl, StrB.range hT (fun j v hv => ?_)⟩
  rw [box_cell hb, Nat.zero_add]
  have : (cur.toList.take 64)[j]? = some v := by rw [ht]; exact hv
  rw [List.getElem?_take] at this
  split at this
  · simpa using this
  · cases this
end Go.Proofs.Ytoifpbifipgpkaa
