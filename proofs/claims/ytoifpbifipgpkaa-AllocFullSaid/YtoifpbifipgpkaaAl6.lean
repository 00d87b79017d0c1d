/-
  alloc: a map on a store of the statements', as a plain value: what is taken, what was at the last Commit.
-/
import Derived.Test.YtoifpbifipgpkaaAl5
import Derived.Test.YtoifpbifipgpkaaWal30
namespace Go.Proofs.Ytoifpbifipgpkaa
open Go.RowKit Go.MapKept
theorem Card.within {U : Int → Option (List UInt8)} {k : Nat} (h : Card U k) (a K : Nat) (hd : ∀ i, (U i).isSome = true → ∃ j : Nat, j < K ∧ i = ((a + j : Nat) : Int)) : k ≤ K := by
  obtain ⟨ks, hn, hm, rfl⟩ := h
  have := List.Nodup.length_le_of_subset (l₂ := (List.range K).map fun j => ((a + j : Nat) : Int)) hn (fun x hx => by
    obtain ⟨t, ht⟩ := (hm x).1 hx
    obtain ⟨j, hj, rfl⟩ := hd x (by rw [ht]; rfl)
    exact List.mem_map.2 ⟨j, List.mem_range.2 hj, rfl⟩)
  simpa using this
theorem Fit.asked {S : Sv} (h : Fit S) (c : Int) : Fit (S.asked c) := ⟨h.gone, ⟨h.live.d, h.live.f⟩, h.wt, h.head, h.lst, h.cnt⟩
theorem Fit.put' {S : Sv} (h : Fit S) (i : Nat) (x : List UInt8) : Fit (S.put' i x) := ⟨h.gone, h.live, h.wt, h.head, h.lst, h.cnt⟩
/-- What a store tells without the change under way. -/
def Sv.base (S : Sv) : Sv := { S with U := fun _ => none, k := 0 }
theorem Fit.base {S : Sv} (h : Fit S) : Fit S.base := ⟨h.gone, h.live, h.wt, h.head, h.lst, h.cnt⟩
theorem put'_tell (S : Sv) (i : Nat) (x : List UInt8) (j : Nat) : (S.put' i x).tell j = if j = i then x else S.tell j := by
  unfold Sv.tell Sv.put'
  simp only [wrote]
  by_cases h : j = i
  · subst h; simp
  · rw [if_neg h, if_neg (by omega)]
/-- G: what else there is, that no call on the map turns. -/
structure AlAt (w : World) (s p l m h at' n : Nat) (G : List (Nat × Obj)) (B : Nat) (f g : Nat → Bool) (all : Nat) (wr : World) : Prop where
  ex : ∃ (bs : List Nat) (S : Sv) (b : Int), StAt wr bs s p l m 400 400 b S ∧ Fit S ∧ S.all = all ∧ h ∉ bs ∧ (∀ x ∈ bs, w.heap.size ≤ x ∧ x < wr.heap.size) ∧ MapTold S at' n f ∧ MapTold S.base at' n g ∧ (∀ i, (S.U i).isSome = true → ∃ j : Nat, 512 * j < n ∧ i = ((at' + j : Nat) : Int)) ∧ (∀ y ∈ G, y.1 ∉ bs ∧ y.1 ≠ h) ∧ b ≤ B
  keep : ∀ y ∈ G, wr.heap[y.1]? = some y.2
  box : MapBox wr h s at' n
  hh : w.heap.size ≤ h
  fr : Fr [] w wr
def TakeDone (n : Nat) (f : Nat → Bool) (e : Ending) (f' : Nat → Bool) : Prop :=
  (∃ x : Nat, x < n ∧ (∀ y, y < x → f y = true) ∧ f x = false ∧ e = .returned (.tuple #[.int .i64 x, .int .i64 0]) ∧ f' = flip f x) ∨ ((∀ y, y < n → f y = true) ∧ e = .returned (.tuple #[.int .i64 0, .int .i64 60]) ∧ f' = f)
def GiveDone (n : Nat) (f : Nat → Bool) (i : Int) (e : Ending) (f' : Nat → Bool) : Prop :=
  (∃ x : Nat, i = x ∧ x < n ∧ f x = true ∧ e = .returned (.int .i64 0) ∧ f' = flip f x) ∨ ((∀ x : Nat, i = x → x < n → f x = false) ∧ e = .returned (.int .i64 1) ∧ f' = f)
section
variable {w wr : World} {s p l m h at' n B : Nat} {G : List (Nat × Obj)} {f g : Nat → Bool} {all : Nat}
/-- What else there is turns, and the map lies as it lay. -/
theorem AlAt.regard {W : World} (hA : AlAt w s p l m h at' n G B f g all wr) {r : List Nat} (hfr : Fr r wr W) (hr : ∀ x ∈ r, wr.heap.size ≤ x ∨ ∃ y ∈ G, y.1 = x ∧ w.heap.size ≤ x) (G' : List (Nat × Obj)) (hG' : ∀ y ∈ G', W.heap[y.1]? = some y.2 ∧ (wr.heap.size ≤ y.1 ∨ ∃ z ∈ G, z.1 = y.1)) :
    AlAt w s p l m h at' n G' B f g all W := by
  obtain ⟨bs, S, b, hst, hfit, hall, hh, hbs, hf, hg, hd, hG, hb⟩ := hA.ex
  have hlt := lt_of_heap hA.box
  have hsz := hA.fr.size
  have hnb : ∀ x ∈ r, x ∉ bs := fun x hx hxb => by
    rcases hr x hx with h1 | ⟨y, hy, rfl, _⟩
    · have := (hbs x hxb).2; omega
    · exact (hG y hy).1 hxb
  have hnh : h ∉ r := fun hx => by
    rcases hr h hx with h1 | ⟨y, hy, e, _⟩
    · omega
    · exact (hG y hy).2 e
  refine ⟨⟨bs, S, b, hst.keep hfr hnb, hfit, hall, hh, fun y hy => ⟨(hbs y hy).1, Nat.lt_of_lt_of_le (hbs y hy).2 hfr.size⟩, hf, hg, hd, fun y hy => ?_, hb⟩, fun y hy => (hG' y hy).1, hfr.keep hA.box hnh, hA.hh, hA.fr.trans_new hfr (fun x hx => ?_)⟩
  · rcases (hG' y hy).2 with h1 | ⟨z, hz, e⟩
    · exact ⟨fun hx => by have := (hbs _ hx).2; omega, by omega⟩
    · rw [← e]; exact hG z hz
  · rcases hr x hx with h1 | ⟨y, hy, _, h2⟩
    · exact .inr (by omega)
    · exact .inr h2
theorem AlAt.more (hA : AlAt w s p l m h at' n G B f g all wr) {B' : Nat} (hB : B ≤ B') : AlAt w s p l m h at' n G B' f g all wr := by
  obtain ⟨bs, S, b, hst, hfit, hall, hh, hbs, hf, hg, hd, hG, hb⟩ := hA.ex
  exact ⟨⟨bs, S, b, hst, hfit, hall, hh, hbs, hf, hg, hd, hG, by omega⟩, hA.keep, hA.box, hA.hh, hA.fr⟩
theorem MapTold.turn {S : Sv} (hf : MapTold S at' n f) (c : Int) (x : Nat) : MapTold ((S.asked c).put' (at' + x / 512) (secOf (flip f x) (x / 512))) at' n (flip f x) := fun j hj => by
  rw [put'_tell, asked_tell]
  by_cases e : j = x / 512
  · subst e; rw [if_pos rfl]
  · rw [if_neg (by omega), hf j hj, secOf_other _ _ _ e]
theorem room_of {S : Sv} {bs : List Nat} {nd q : Nat} {b : Int} (hst : StAt wr bs s p l m nd q b S) (hn : n ≤ 8192) (hd : ∀ i, (S.U i).isSome = true → ∃ j : Nat, 512 * j < n ∧ i = ((at' + j : Nat) : Int)) : S.k < 128 := by
  have := hst.card.within at' 16 (fun i hi => by
    obtain ⟨j, hj, e⟩ := hd i hi
    exact ⟨j, by omega, e⟩)
  omega
theorem put_dom {S : Sv} (hd : ∀ i, (S.U i).isSome = true → ∃ j : Nat, 512 * j < n ∧ i = ((at' + j : Nat) : Int)) (c : Int) {x : Nat} (hx : x < n) (t : List UInt8) : ∀ i, (((S.asked c).put' (at' + x / 512) t).U i).isSome = true → ∃ j : Nat, 512 * j < n ∧ i = ((at' + j : Nat) : Int) := fun i hi => by
  simp only [Sv.put', wrote] at hi
  split at hi
  · rename_i e; exact ⟨x / 512, by omega, e⟩
  · exact hd i hi
theorem al_take (hA : AlAt w s p l m h at' n G B f g all wr) (hn : n ≤ 8192) (hi : at' + (n - 1) / 512 + 300 < 400) (hB : B < 7000000000000000000) :
    Calls Try.prog 31 #[.pointer (some ⟨h, 0, none⟩)] wr fun e w' => ∃ f', TakeDone n f e f' ∧ AlAt w s p l m h at' n G (B + 17) f' g all w' := by
  obtain ⟨bs, S, b, hst, hfit, hall, hh, hbs, hf, hg, hd, hG, hb⟩ := hA.ex
  refine (take_calls hst hfit.gone hfit.live.d hA.box hh (fun x hx => (hbs x hx).2) hn hi (by omega) f hf (fun j _ => .inr (room_of hst hn hd))).mono ?_
  rintro e w' ⟨hfr, c, ⟨x, hx, hall', hx0, rfl, hst'⟩ | ⟨hfull, rfl, hst'⟩⟩
  · refine ⟨_, .inl ⟨x, hx, hall', hx0, rfl, rfl⟩, ⟨⟨bs, _, _, hst', (hfit.asked c).put' _ _, hall, hh, fun y hy => ⟨(hbs y hy).1, Nat.lt_of_lt_of_le (hbs y hy).2 hfr.size⟩, hf.turn c x, hg, put_dom hd c hx _, hG, by omega⟩, fun y hy => hfr.keep (hA.keep y hy) (hG y hy).1, hfr.keep hA.box hh, hA.hh, hA.fr.trans_new hfr (fun y hy => .inr (hbs y hy).1)⟩⟩
  · exact ⟨f, .inr ⟨hfull, rfl, rfl⟩, ⟨⟨bs, _, _, hst', hfit.asked c, hall, hh, fun y hy => ⟨(hbs y hy).1, Nat.lt_of_lt_of_le (hbs y hy).2 hfr.size⟩, hf, hg, hd, hG, by omega⟩, fun y hy => hfr.keep (hA.keep y hy) (hG y hy).1, hfr.keep hA.box hh, hA.hh, hA.fr.trans_new hfr (fun y hy => .inr (hbs y hy).1)⟩⟩
theorem al_give (hA : AlAt w s p l m h at' n G B f g all wr) (hn : n ≤ 8192) (hi : at' + (n - 1) / 512 + 300 < 400) (hB : B < 7000000000000000000) (i : Int) :
    Calls Try.prog 32 #[.pointer (some ⟨h, 0, none⟩), .int .i64 i] wr fun e w' => ∃ f', GiveDone n f i e f' ∧ AlAt w s p l m h at' n G (B + 17) f' g all w' := by
  obtain ⟨bs, S, b, hst, hfit, hall, hh, hbs, hf, hg, hd, hG, hb⟩ := hA.ex
  refine (give_calls hst hfit.gone hfit.live.d hA.box hh (fun x hx => (hbs x hx).2) hn hi (by omega) f hf (fun j _ => .inr (room_of hst hn hd)) i).mono ?_
  rintro e w' ⟨hfr, c, ⟨x, hx1, hx, hx0, rfl, hst'⟩ | ⟨hfull, rfl, hst'⟩⟩
  · refine ⟨_, .inl ⟨x, hx1, hx, hx0, rfl, rfl⟩, ⟨⟨bs, _, _, hst', (hfit.asked c).put' _ _, hall, hh, fun y hy => ⟨(hbs y hy).1, Nat.lt_of_lt_of_le (hbs y hy).2 hfr.size⟩, hf.turn c x, hg, put_dom hd c hx _, hG, by omega⟩, fun y hy => hfr.keep (hA.keep y hy) (hG y hy).1, hfr.keep hA.box hh, hA.hh, hA.fr.trans_new hfr (fun y hy => .inr (hbs y hy).1)⟩⟩
  · exact ⟨f, .inr ⟨hfull, rfl, rfl⟩, ⟨⟨bs, _, _, hst', hfit.asked c, hall, hh, fun y hy => ⟨(hbs y hy).1, Nat.lt_of_lt_of_le (hbs y hy).2 hfr.size⟩, hf, hg, hd, hG, by omega⟩, fun y hy => hfr.keep (hA.keep y hy) (hG y hy).1, hfr.keep hA.box hh, hA.hh, hA.fr.trans_new hfr (fun y hy => .inr (hbs y hy).1)⟩⟩
theorem al_taken (hA : AlAt w s p l m h at' n G B f g all wr) (hn : n ≤ 8192) (hi : at' + (n - 1) / 512 + 300 < 400) (hB : B < 7000000000000000000) (i : Int) :
    Calls Try.prog 35 #[.pointer (some ⟨h, 0, none⟩), .int .i64 i] wr fun e w' => e = .returned (.tuple #[.bool (isIn i n && f i.toNat), .int .i64 (if isIn i n = true then 0 else 1)]) ∧ AlAt w s p l m h at' n G (B + 17) f g all w' := by
  obtain ⟨bs, S, b, hst, hfit, hall, hh, hbs, hf, hg, hd, hG, hb⟩ := hA.ex
  refine (taken_calls hst hfit.gone hfit.live.d hA.box hh hn hi (by omega) f hf i).mono ?_
  rintro e w' ⟨hfr, c, hst', rfl⟩
  exact ⟨rfl, ⟨⟨bs, _, _, hst', hfit.asked c, hall, hh, fun y hy => ⟨(hbs y hy).1, Nat.lt_of_lt_of_le (hbs y hy).2 hfr.size⟩, hf, hg, hd, hG, by omega⟩, fun y hy => hfr.keep (hA.keep y hy) (hG y hy).1, hfr.keep hA.box hh, hA.hh, hA.fr.trans_new hfr (fun y hy => .inr (hbs y hy).1)⟩⟩
theorem al_count (hA : AlAt w s p l m h at' n G B f g all wr) (hn : n ≤ 8192) (hi : at' + (n - 1) / 512 + 300 < 400) (hB : B < 7000000000000000000) :
    Calls Try.prog 33 #[.pointer (some ⟨h, 0, none⟩)] wr fun e w' => e = .returned (.tuple #[.int .i64 (cntB f n), .int .i64 0]) ∧ AlAt w s p l m h at' n G (B + 17) f g all w' := by
  obtain ⟨bs, S, b, hst, hfit, hall, hh, hbs, hf, hg, hd, hG, hb⟩ := hA.ex
  refine (count_calls hst hfit.gone hfit.live.d hA.box hh hn hi (by omega) f hf).mono ?_
  rintro e w' ⟨hfr, c, hst', rfl⟩
  exact ⟨rfl, ⟨⟨bs, _, _, hst', hfit.asked c, hall, hh, fun y hy => ⟨(hbs y hy).1, Nat.lt_of_lt_of_le (hbs y hy).2 hfr.size⟩, hf, hg, hd, hG, by omega⟩, fun y hy => hfr.keep (hA.keep y hy) (hG y hy).1, hfr.keep hA.box hh, hA.hh, hA.fr.trans_new hfr (fun y hy => .inr (hbs y hy).1)⟩⟩
theorem al_read (hA : AlAt w s p l m h at' n G B f g all wr) (j : Nat) (hj : 512 * j < n) (hi : at' + j + 300 < 400) (hB : B < 7000000000000000000) :
    Calls Try.prog 20 #[.pointer (some ⟨s, 0, none⟩), .int .i64 ((at' + j : Nat) : Int)] wr fun e w' => ∃ x, e = .returned (.tuple #[x, .int .i64 0]) ∧ Bytes64 w' wr.heap.size x (secOf f j) ∧ AlAt w s p l m h at' n G (B + 17) f g all w' := by
  obtain ⟨bs, S, b, hst, hfit, hall, hh, hbs, hf, hg, hd, hG, hb⟩ := hA.ex
  refine (st_read hst hfit.gone hfit.live.d (at' + j) (by omega) (by omega)).mono ?_
  rintro e w' ⟨x, c, rfl, hfr, hst', hx⟩
  rw [hf j hj] at hx
  exact ⟨x, rfl, hx, ⟨⟨bs, _, _, hst', hfit.asked c, hall, hh, fun y hy => ⟨(hbs y hy).1, Nat.lt_of_lt_of_le (hbs y hy).2 hfr.size⟩, hf, hg, hd, hG, by omega⟩, fun y hy => hfr.keep (hA.keep y hy) (hG y hy).1, hfr.keep hA.box hh, hA.hh, hA.fr.trans_new hfr (fun y hy => .inr (hbs y hy).1)⟩⟩
theorem al_commit (hA : AlAt w s p l m h at' n G B f g all wr) (hB : B < 7000000000000000000) (ha : all < 1000000) :
    Calls Try.prog 15 #[.pointer (some ⟨s, 0, none⟩)] wr fun e w' => e = .returned (.int .i64 0) ∧ AlAt w s p l m h at' n G (B + 800) f f (all + 1) w' := by
  obtain ⟨bs, S, b, hst, hfit, hall, hh, hbs, hf, hg, hd, hG, hb⟩ := hA.ex
  refine (fit_commit hst hfit (by omega) (by omega)).mono ?_
  rintro e w' ⟨bs', S1, rfl, hfr, hgr, hs1, hst'⟩
  have hco := committed hfit hst.card hs1
  obtain ⟨bs2, htr, hst2⟩ := hst'.trim
  have hsz := hA.fr.size
  have hlt := lt_of_heap hA.box
  have hbase : ∀ i, (S1.push.base).tell i = S1.push.tell i := fun i => by
    unfold Sv.tell Sv.base
    rw [hco.und]
  refine ⟨rfl, ⟨⟨bs2, _, _, hst2, hco.fit, by rw [hco.all, hall]; omega, fun hx => ?_, fun y hy => ⟨?_, (htr y hy).2⟩, fun j hj => by rw [hco.tell]; exact hf j hj, fun j hj => by rw [hbase, hco.tell]; exact hf j hj, fun i hi => (by rw [hco.und] at hi; cases hi), fun y hy => ⟨fun hx => ?_, (hG y hy).2⟩, by omega⟩, fun y hy => hfr.keep (hA.keep y hy) (hG y hy).1, hfr.keep hA.box hh, hA.hh, hA.fr.trans_new hfr (fun y hy => .inr (hbs y hy).1)⟩⟩
  · rcases hgr h (htr h hx).1 with h1 | h1
    · exact hh h1
    · omega
  · rcases hgr y (htr y hy).1 with h1 | h1
    · exact (hbs y h1).1
    · omega
  · have hlt2 := lt_of_heap (hA.keep y hy)
    rcases hgr y.1 (htr y.1 hx).1 with h1 | h1
    · exact (hG y hy).1 h1
    · omega
theorem al_abort (hA : AlAt w s p l m h at' n G B f g all wr) :
    Calls Try.prog 25 #[.pointer (some ⟨s, 0, none⟩)] wr fun e w' => e = .returned (.tuple #[]) ∧ AlAt w s p l m h at' n G B g g all w' := by
  obtain ⟨bs, S, b, hst, hfit, hall, hh, hbs, hf, hg, hd, hG, hb⟩ := hA.ex
  refine (st_abort hst).mono ?_
  rintro e w' ⟨bs', rfl, hfr, hgr, hst'⟩
  obtain ⟨bs2, htr, hst2⟩ := hst'.trim
  have hsz := hA.fr.size
  have hlt := lt_of_heap hA.box
  refine ⟨rfl, ⟨⟨bs2, S.base, _, hst2, hfit.base, hall, fun hx => ?_, fun y hy => ⟨?_, (htr y hy).2⟩, hg, hg, fun i hi => (by cases hi), fun y hy => ⟨fun hx => ?_, (hG y hy).2⟩, by omega⟩, fun y hy => hfr.keep (hA.keep y hy) (hG y hy).1, hfr.keep hA.box hh, hA.hh, hA.fr.trans_new hfr (fun y hy => .inr (hbs y hy).1)⟩⟩
  · rcases hgr h (htr h hx).1 with h1 | h1
    · exact hh h1
    · omega
  · rcases hgr y (htr y hy).1 with h1 | h1
    · exact (hbs y h1).1
    · omega
  · have hlt2 := lt_of_heap (hA.keep y hy)
    rcases hgr y.1 (htr y.1 hx).1 with h1 | h1
    · exact (hG y hy).1 h1
    · omega
end
end Go.Proofs.Ytoifpbifipgpkaa
