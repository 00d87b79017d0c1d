/-
  wal: a store of the statements', as a plain value: what it tells of the first sixteen sectors, now and at the last Commit.
-/
import Derived.Test.YtoifpbifipgpkaaWp1
namespace Go.Proofs.Ytoifpbifipgpkaa
open Go.RowKit Go.MapKept
/-- Without the change under way. -/
def Sv.bare (S : Sv) : Sv := { S with U := fun _ => none, k := 0 }
theorem Fit.bareW {S : Sv} (h : Fit S) : Fit S.bare := ⟨h.gone, h.live, h.wt, h.head, h.lst, h.cnt⟩
theorem Fit.askedW {S : Sv} (h : Fit S) (c : Int) : Fit (S.asked c) := ⟨h.gone, ⟨h.live.d, h.live.f⟩, h.wt, h.head, h.lst, h.cnt⟩
def Sv.putW (S : Sv) (i : Nat) (x : List UInt8) : Sv := { S with U := wrote S.U i x, k := if (S.U i).isSome then S.k else S.k + 1 }
theorem Fit.putW {S : Sv} (h : Fit S) (i : Nat) (x : List UInt8) : Fit (S.putW i x) := ⟨h.gone, h.live, h.wt, h.head, h.lst, h.cnt⟩
theorem putW_tell (S : Sv) (i : Nat) (x : List UInt8) (j : Nat) : (S.putW i x).tell j = if j = i then x else S.tell j := by
  unfold Sv.tell Sv.putW
  simp only [wrote]
  by_cases h : j = i
  · subst h; simp
  · rw [if_neg h, if_neg (by omega)]
theorem Card.withinW {U : Int → Option (List UInt8)} {k : Nat} (h : Card U k) (K : Nat) (hd : ∀ i, (U i).isSome = true → 0 ≤ i ∧ i < K) : k ≤ K := by
  obtain ⟨ks, hn, hm, rfl⟩ := h
  have := List.Nodup.length_le_of_subset (l₂ := (List.range K).map fun (j : Nat) => (j : Int)) hn (fun x hx => by
    obtain ⟨t, ht⟩ := (hm x).1 hx
    obtain ⟨h1, h2⟩ := hd x (by rw [ht]; rfl)
    exact List.mem_map.2 ⟨x.toNat, List.mem_range.2 (by omega), by omega⟩)
  simpa using this
/-- G: what else there is. -/
structure WsAt (w : World) (G : List (Nat × Obj)) (p s : Nat) (syn : Bool) (B : Nat) (now done : Nat → Nat) (all : Nat) (wr : World) : Prop where
  ex : ∃ (bs : List Nat) (l m : Nat) (S : Sv) (b : Int), StAt wr bs s p l m 340 340 b S ∧ Fit S ∧ S.all = all ∧ (∀ x ∈ bs, w.heap.size ≤ x ∧ x < wr.heap.size) ∧ (∀ i, i < 16 → S.tell i = kindN (now i)) ∧ (∀ i, i < 16 → S.bare.tell i = kindN (done i)) ∧ (∀ i, (S.U i).isSome = true → 0 ≤ i ∧ i < 40) ∧ (∀ y ∈ G, y.1 ∉ bs) ∧ (syn = true → S.last = S.all ∧ S.Cs = []) ∧ b ≤ B
  keep : ∀ y ∈ G, wr.heap[y.1]? = some y.2
  fr : Fr [] w wr
/-- A device that is all calm. -/
structure DeAt (w : World) (G : List (Nat × Obj)) (p : Nat) (B : Nat) (done : Nat → Nat) (wr : World) : Prop where
  ex : ∃ (l m : Nat) (c b : Int) (ls : Nat → List UInt8), DvAt wr p l m 340 340 b ⟨c, -1, false, ls, fun _ => none⟩ ∧ numAt (ls 0) 0 = 0 ∧ (∀ i, i < 16 → ls (300 + i) = kindN (done i)) ∧ (∀ x ∈ [p, l, m], w.heap.size ≤ x ∧ x < wr.heap.size) ∧ (∀ y ∈ G, y.1 ≠ p ∧ y.1 ≠ l ∧ y.1 ≠ m) ∧ b ≤ B
  keep : ∀ y ∈ G, wr.heap[y.1]? = some y.2
  fr : Fr [] w wr
section
variable {w wr : World} {G : List (Nat × Obj)} {p s : Nat} {syn : Bool} {B : Nat} {now done : Nat → Nat} {all : Nat}
theorem WsAt.more (hA : WsAt w G p s syn B now done all wr) {B' : Nat} (hB : B ≤ B') : WsAt w G p s false B' now done all wr := by
  obtain ⟨bs, l, m, S, b, h1, h2, h3, h4, h5, h6, h7, h8, h9, h10⟩ := hA.ex
  exact ⟨⟨bs, l, m, S, b, h1, h2, h3, h4, h5, h6, h7, h8, (fun h => (by cases h)), by omega⟩, hA.keep, hA.fr⟩
theorem WsAt.regard {W : World} (hA : WsAt w G p s syn B now done all wr) {r : List Nat} (hfr : Fr r wr W) (hr : ∀ x ∈ r, wr.heap.size ≤ x ∨ ∃ y ∈ G, y.1 = x ∧ w.heap.size ≤ x) (G' : List (Nat × Obj)) (hG' : ∀ y ∈ G', W.heap[y.1]? = some y.2 ∧ (wr.heap.size ≤ y.1 ∨ ∃ z ∈ G, z.1 = y.1)) :
    WsAt w G' p s syn B now done all W := by
  obtain ⟨bs, l, m, S, b, hst, hfit, hall, hbs, hf, hg, hd, hG, hsy, hb⟩ := hA.ex
  have hsz := hA.fr.size
  have hnb : ∀ x ∈ r, x ∉ bs := fun x hx hxb => by
    rcases hr x hx with h1 | ⟨y, hy, rfl, _⟩
    · have := (hbs x hxb).2; omega
    · exact hG y hy hxb
  refine ⟨⟨bs, l, m, S, b, hst.keep hfr hnb, hfit, hall, fun y hy => ⟨(hbs y hy).1, Nat.lt_of_lt_of_le (hbs y hy).2 hfr.size⟩, hf, hg, hd, fun y hy => ?_, hsy, hb⟩, fun y hy => (hG' y hy).1, hA.fr.trans_new hfr (fun x hx => ?_)⟩
  · rcases (hG' y hy).2 with h1 | ⟨z, hz, e⟩
    · exact fun hx => by have := (hbs _ hx).2; omega
    · rw [← e]; exact hG z hz
  · rcases hr x hx with h1 | ⟨y, hy, _, h2⟩
    · exact .inr (by omega)
    · exact .inr h2
theorem ws_write (hA : WsAt w G p s syn B now done all wr) (i : Nat) (hi : i < 40) (g cap : Nat) (o : Obj) (hg : (g, o) ∈ G) (kd : Nat) (hr : wr.rangeAt g 0 (cel (kindN kd))) :
    Calls Try.prog 13 #[.pointer (some ⟨s, 0, none⟩), .int .i64 i, .slice (some ⟨g, 0, none⟩) 64 cap] wr fun e w' => e = .returned (.int .i64 0) ∧ WsAt w G p s false B (fun j => if j = i then kd else now j) done all w' := by
  obtain ⟨bs, l, m, S, b, hst, hfit, hall, hbs, hf, hgd, hd, hG, hsy, hb⟩ := hA.ex
  have hk : S.k < 128 := by have := hst.card.withinW 40 hd; omega
  refine (st_write hst hfit.gone hfit.live.d i (by omega) g 0 cap (kindN kd) (kindN_length kd) hr (hG _ hg) (.inr hk)).mono ?_
  rintro e w' ⟨rfl, hfr, hst'⟩
  refine ⟨rfl, ⟨⟨bs, l, m, S.putW i (kindN kd), b, hst', hfit.putW _ _, hall, fun y hy => ⟨(hbs y hy).1, Nat.lt_of_lt_of_le (hbs y hy).2 hfr.size⟩, fun j hj => ?_, hgd, fun j hj => ?_, hG, fun h => (by cases h), hb⟩, fun y hy => hfr.keep (hA.keep y hy) (hG y hy), hA.fr.trans_new hfr (fun y hy => .inr (hbs y hy).1)⟩⟩
  · rw [putW_tell]
    by_cases e : j = i
    · rw [if_pos e, if_pos e]
    · rw [if_neg e, if_neg e]; exact hf j hj
  · simp only [Sv.putW, wrote] at hj
    split at hj
    · omega
    · exact hd j hj
theorem ws_write_arg (hA : WsAt w G p s syn B now done all wr) (i : Int) (ad : Option Addr) (k cap : Nat) (ho : (decide (0 ≤ i) && decide (i < 40)) = false ∨ k ≠ 64) :
    Calls Try.prog 13 #[.pointer (some ⟨s, 0, none⟩), .int .i64 i, .slice ad k cap] wr fun e w' => e = .returned (.int .i64 1) ∧ WsAt w G p s false B now done all w' := by
  obtain ⟨bs, l, m, S, b, hst, hfit, hall, hbs, hf, hgd, hd, hG, hsy, hb⟩ := hA.ex
  refine (st_write_arg hst hfit.gone hfit.live.d i ad k cap ho).mono ?_
  rintro e w' ⟨rfl, hfr, hst'⟩
  exact ⟨rfl, ⟨⟨bs, l, m, S, b, hst', hfit, hall, fun y hy => ⟨(hbs y hy).1, Nat.lt_of_lt_of_le (hbs y hy).2 hfr.size⟩, hf, hgd, hd, hG, fun h => (by cases h), hb⟩, fun y hy => hfr.keep (hA.keep y hy) (hG y hy), hA.fr.trans_new hfr (fun y hy => .inr (hbs y hy).1)⟩⟩
theorem ws_commits (hA : WsAt w G p s syn B now done all wr) :
    Calls Try.prog 17 #[.pointer (some ⟨s, 0, none⟩)] wr fun e w' => ∃ last : Int, (0 ≤ last ∧ last ≤ all) ∧ (syn = true → last = all) ∧ e = .returned (.tuple #[.int .i64 all, .int .i64 last]) ∧ WsAt w G p s syn B now done all w' := by
  obtain ⟨bs, l, m, S, b, hst, hfit, hall, hbs, hf, hgd, hd, hG, hsy, hb⟩ := hA.ex
  refine (st_commits hst).mono ?_
  rintro e w' ⟨rfl, hfr⟩
  have hcn := hfit.cnt
  refine ⟨S.last, by omega, fun h => by rw [(hsy h).1, hall], by rw [hall], hA.regard hfr (by simp) G (fun y hy => ⟨hfr.keep (hA.keep y hy) (by simp), .inr ⟨y, hy, rfl⟩⟩)⟩
theorem ws_commit (hA : WsAt w G p s syn B now done all wr) (hB : B < 7000000000000000000) (ha : all < 1000000) :
    Calls Try.prog 15 #[.pointer (some ⟨s, 0, none⟩)] wr fun e w' => e = .returned (.int .i64 0) ∧ WsAt w G p s false (B + 800) now now (all + 1) w' := by
  obtain ⟨bs, l, m, S, b, hst, hfit, hall, hbs, hf, hgd, hd, hG, hsy, hb⟩ := hA.ex
  refine (fit_commit hst hfit (by omega) (by omega)).mono ?_
  rintro e w' ⟨bs', S1, rfl, hfr, hgr, hs1, hst'⟩
  have hco := committed hfit hst.card hs1
  obtain ⟨bs2, htr, hst2⟩ := hst'.trim
  have hsz := hA.fr.size
  have hbase : ∀ i, (S1.push.bare).tell i = S1.push.tell i := fun i => by
    unfold Sv.tell Sv.bare
    rw [hco.und]
  refine ⟨rfl, ⟨⟨bs2, l, m, _, _, hst2, hco.fit, by rw [hco.all, hall]; omega, fun y hy => ⟨?_, (htr y hy).2⟩, fun j hj => by rw [hco.tell]; exact hf j hj, fun j hj => by rw [hbase, hco.tell]; exact hf j hj, fun i hi => (by rw [hco.und] at hi; cases hi), fun y hy hx => ?_, fun h => (by cases h), by omega⟩, fun y hy => hfr.keep (hA.keep y hy) (hG y hy), hA.fr.trans_new hfr (fun y hy => .inr (hbs y hy).1)⟩⟩
  · rcases hgr y (htr y hy).1 with h1 | h1
    · exact (hbs y h1).1
    · omega
  · have hlt2 := lt_of_heap (hA.keep y hy)
    rcases hgr y.1 (htr y.1 hx).1 with h1 | h1
    · exact hG y hy h1
    · omega
theorem ws_sync (hA : WsAt w G p s syn B now done all wr) (hB : B < 7000000000000000000) :
    Calls Try.prog 16 #[.pointer (some ⟨s, 0, none⟩)] wr fun e w' => e = .returned (.int .i64 0) ∧ WsAt w G p s true (B + 800) now done all w' := by
  obtain ⟨bs, l, m, S, b, hst, hfit, hall, hbs, hf, hgd, hd, hG, hsy, hb⟩ := hA.ex
  refine (fit_sync hst hfit (by omega)).mono ?_
  rintro e w' ⟨bs', S1, rfl, hfr, hgr, hs1, hst'⟩
  have hla := lasting hfit hs1
  obtain ⟨bs2, htr, hst2⟩ := hst'.trim
  have hsz := hA.fr.size
  have hbare : ∀ i, S1.bare.tell i = S.bare.tell i := fun i => by
    obtain ⟨v', hv, rfl⟩ := hs1
    exact Homed.tell hfit.bareW ⟨v', hv, rfl⟩ i
  refine ⟨rfl, ⟨⟨bs2, l, m, S1, _, hst2, hla.fit, by rw [hla.all, hall], fun y hy => ⟨?_, (htr y hy).2⟩, fun j hj => by rw [hla.tell]; exact hf j hj, fun j hj => by rw [hbare]; exact hgd j hj, fun i hi => hd i (by rw [← hla.und]; exact hi), fun y hy hx => ?_, fun _ => ⟨by rw [hla.last, hla.all], hla.wts⟩, by omega⟩, fun y hy => hfr.keep (hA.keep y hy) (hG y hy), hA.fr.trans_new hfr (fun y hy => .inr (hbs y hy).1)⟩⟩
  · rcases hgr y (htr y hy).1 with h1 | h1
    · exact (hbs y h1).1
    · omega
  · have hlt2 := lt_of_heap (hA.keep y hy)
    rcases hgr y.1 (htr y.1 hx).1 with h1 | h1
    · exact hG y hy h1
    · omega
theorem ws_abort (hA : WsAt w G p s syn B now done all wr) :
    Calls Try.prog 25 #[.pointer (some ⟨s, 0, none⟩)] wr fun e w' => e = .returned (.tuple #[]) ∧ WsAt w G p s false B done done all w' := by
  obtain ⟨bs, l, m, S, b, hst, hfit, hall, hbs, hf, hgd, hd, hG, hsy, hb⟩ := hA.ex
  refine (st_abort hst).mono ?_
  rintro e w' ⟨bs', rfl, hfr, hgr, hst'⟩
  obtain ⟨bs2, htr, hst2⟩ := hst'.trim
  have hsz := hA.fr.size
  refine ⟨rfl, ⟨⟨bs2, l, m, S.bare, _, hst2, hfit.bareW, hall, fun y hy => ⟨?_, (htr y hy).2⟩, hgd, hgd, fun i hi => (by cases hi), fun y hy hx => ?_, fun h => (by cases h), by omega⟩, fun y hy => hfr.keep (hA.keep y hy) (hG y hy), hA.fr.trans_new hfr (fun y hy => .inr (hbs y hy).1)⟩⟩
  · rcases hgr y (htr y hy).1 with h1 | h1
    · exact (hbs y h1).1
    · omega
  · have hlt2 := lt_of_heap (hA.keep y hy)
    rcases hgr y.1 (htr y.1 hx).1 with h1 | h1
    · exact hG y hy h1
    · omega
theorem ws_read (hA : WsAt w G p s syn B now done all wr) (i : Nat) (hi : i < 40) (hB : B < 7000000000000000000) :
    Calls Try.prog 20 #[.pointer (some ⟨s, 0, none⟩), .int .i64 i] wr fun e w' => ∃ g cap o, e = .returned (.tuple #[.slice (some ⟨g, 0, none⟩) 64 cap, .int .i64 0]) ∧ Bts w' g 64 ∧ wr.heap.size ≤ g ∧ WsAt w ((g, o) :: G) p s false (B + 1) now done all w' := by
  obtain ⟨bs, l, m, S, b, hst, hfit, hall, hbs, hf, hgd, hd, hG, hsy, hb⟩ := hA.ex
  have htl := tell_len hst hfit.live.d (i := i) (by omega)
  refine (st_read hst hfit.gone hfit.live.d i (by omega) (by omega)).mono ?_
  rintro e w' ⟨x, c, rfl, hfr, hst', g, cap, cur, t, rfl, hg, hbx, hcap, ht⟩
  have hsz := hA.fr.size
  have hcl : (cur.toList.take 64).length = 64 := by rw [ht, cel_length, htl]
  have hbt : Bts w' g 64 := fun j hj => by
    refine ⟨⟨((S.tell i).getD j 0).toNat, ?_⟩, box_free hbx j⟩
    rw [box_cell hbx]
    have h1 : (cur.toList.take 64)[j]? = some (.int .u8 ((S.tell i).getD j 0).toNat) := by rw [ht, cel_get]; simp [show j < (S.tell i).length by omega]
    rw [List.getElem?_take_of_lt hj] at h1
    simpa using h1
  refine ⟨g, cap, .cells cur t (0, 0), rfl, hbt, by omega, ⟨⟨bs, l, m, S.asked c, _, hst', hfit.askedW c, hall, fun y hy => ⟨(hbs y hy).1, Nat.lt_of_lt_of_le (hbs y hy).2 hfr.size⟩, hf, hgd, hd, fun y hy => ?_, fun h => (by cases h), by omega⟩, fun y hy => ?_, hA.fr.trans_new hfr (fun y hy => .inr (hbs y hy).1)⟩⟩
  · rcases List.mem_cons.1 hy with rfl | hy
    · exact fun hx => by have := (hbs _ hx).2; simp only at this; omega
    · exact hG y hy
  · rcases List.mem_cons.1 hy with rfl | hy
    · exact hbx
    · exact hfr.keep (hA.keep y hy) (hG y hy)
theorem ws_read_arg (hA : WsAt w G p s syn B now done all wr) (i : Int) (ho : (decide (0 ≤ i) && decide (i < 40)) = false) :
    Calls Try.prog 20 #[.pointer (some ⟨s, 0, none⟩), .int .i64 i] wr fun e w' => e = .returned (.tuple #[.slice none 0 0, .int .i64 1]) ∧ WsAt w G p s false B now done all w' := by
  obtain ⟨bs, l, m, S, b, hst, hfit, hall, hbs, hf, hgd, hd, hG, hsy, hb⟩ := hA.ex
  obtain ⟨u, wv, ms, B0, hl⟩ := hst.lies
  have hbx := hl.box
  rw [hfit.gone] at hbx
  refine (sread_arg wr s p u l m 340 340 wv S.all S.last b S.v hbx hst.dev hfit.live.d hst.sep i ho).mono ?_
  rintro e w' ⟨rfl, hfr, hb'⟩
  obtain ⟨hst', hfr'⟩ := hst.rebox hl hfr S.all S.last S.gone (by rw [hfit.gone]; exact hb') hst.cnt
  exact ⟨rfl, ⟨⟨bs, l, m, S, b, hst', hfit, hall, fun y hy => ⟨(hbs y hy).1, Nat.lt_of_lt_of_le (hbs y hy).2 hfr'.size⟩, hf, hgd, hd, hG, fun h => (by cases h), hb⟩, fun y hy => hfr'.keep (hA.keep y hy) (hG y hy), hA.fr.trans_new hfr' (fun y hy => .inr (hbs y hy).1)⟩⟩
theorem ws_tells (hA : WsAt w G p s syn B now done all wr) (hB : B < 7000000000000000000) (hk : ∀ j, j < 16 → now j ≤ 100000) :
    Calls Try.prog 27 #[.pointer (some ⟨s, 0, none⟩), .agg (arrK now)] wr fun e w' => e = .returned (.bool true) ∧ WsAt w G p s false (B + 16) now done all w' := by
  obtain ⟨bs, l, m, S, b, hst, hfit, hall, hbs, hf, hgd, hd, hG, hsy, hb⟩ := hA.ex
  refine (tells_calls hst hfit.gone hfit.live.d (fun x hx => (hbs x hx).2) (by omega) (by omega) now hk).mono ?_
  rintro e w' ⟨hfr, c, r, hst', rfl, hr⟩
  rw [hr.2 hf]
  exact ⟨rfl, ⟨⟨bs, l, m, S.asked c, _, hst', hfit.askedW c, hall, fun y hy => ⟨(hbs y hy).1, Nat.lt_of_lt_of_le (hbs y hy).2 hfr.size⟩, hf, hgd, hd, hG, fun h => (by cases h), by omega⟩, fun y hy => hfr.keep (hA.keep y hy) (hG y hy), hA.fr.trans_new hfr (fun y hy => .inr (hbs y hy).1)⟩⟩
theorem ws_crash (hA : WsAt w G p s true B now done all wr) (flip : Bool) (ad : Option Addr) (len cap : Nat) (zs : List Int) (hz : IntsAt wr ad len zs) (hlm : len ≤ 9223372036854775807) (hm : 0 < len → ∀ a, ad = some a → a.block < w.heap.size) :
    Calls Try.prog 18 #[.pointer (some ⟨p, 0, none⟩), .bool flip, .slice ad len cap] wr fun e w' => e = .returned (.tuple #[]) ∧ DeAt w G p B done w' := by
  obtain ⟨bs, l, m, S, b, hst, hfit, hall, hbs, hf, hgd, hd, hG, hsy, hb⟩ := hA.ex
  obtain ⟨u, wv, ms, B0, hl⟩ := hst.lies
  have hbp := hbs _ hl.bs4.2.1; have hbl := hbs _ hl.bs4.2.2.1; have hbm := hbs _ hl.bs4.2.2.2.1
  have hsz := hA.fr.size
  have htell : ∀ i, i < 16 → S.v.ls (300 + i) = kindN (done i) := fun i hi => by
    rw [← hgd i hi]
    exact (Fit.tell_ls (S := S.bare) hfit.bareW rfl (hsy rfl).2 i).symm
  refine (dcrash_still wr p l m 340 340 b S.v hst.dev hfit.wt flip ad len cap zs hz hlm (fun h0 a ha e => by have := hm h0 a ha; omega)).mono ?_
  rintro e w' ⟨m', rfl, hfr, hm', hd'⟩
  have hlt := hd'.lts
  have hGp : ∀ y ∈ G, y.1 ≠ p ∧ y.1 ≠ l ∧ y.1 ≠ m := fun y hy => ⟨fun e => hG y hy (by rw [e]; exact hl.bs4.2.1), fun e => hG y hy (by rw [e]; exact hl.bs4.2.2.1), fun e => hG y hy (by rw [e]; exact hl.bs4.2.2.2.1)⟩
  refine ⟨rfl, ⟨⟨l, m', _, b, S.v.ls, hd', hfit.head, htell, fun x hx => ?_, fun y hy => ?_, hb⟩, fun y hy => hfr.keep (hA.keep y hy) (by have := hGp y hy; simp; omega), hA.fr.trans_new hfr (fun x hx => by simp at hx; omega)⟩⟩
  · simp at hx; omega
  · have h1 := hGp y hy
    have h2 := lt_of_heap (hA.keep y hy)
    omega
theorem de_carried (hD : DeAt w G p B done wr) (hB : B < 7000000000000000000) :
    Calls Try.prog 26 #[.pointer (some ⟨p, 0, none⟩)] wr fun e w' => ∃ p', e = .returned (.pointer (some ⟨p', 0, none⟩)) ∧ DeAt w G p' 10000 done w' := by
  obtain ⟨l, m, c, b, ls, hd, hh, ht, hlo, hG, hb⟩ := hD.ex
  have hsz := hD.fr.size
  refine (carried_calls wr p l m 340 340 b c ls hd (by omega)).mono ?_
  rintro e w' ⟨p', l', m', c', rfl, hfr, h1, h2, h3, hd'⟩
  have hlt := hd'.lts
  have hp := hlo p (by simp)
  refine ⟨p', rfl, ⟨⟨l', m', c', _, ls, hd', hh, ht, fun x hx => ?_, fun y hy => ?_, by omega⟩, fun y hy => hfr.keep (hD.keep y hy) (by have := hG y hy; simp; omega), hD.fr.trans_new hfr (fun x hx => by simp at hx; omega)⟩⟩
  · simp at hx; omega
  · have h2 := lt_of_heap (hD.keep y hy)
    omega
theorem de_open (hD : DeAt w G p B done wr) (hB : B < 7000000000000000000) :
    Calls Try.prog 19 #[.pointer (some ⟨p, 0, none⟩)] wr fun e w' => ∃ s', e = .returned (.tuple #[.pointer (some ⟨s', 0, none⟩), .int .i64 0]) ∧ WsAt w G p s' false (B + 1) done done 0 w' := by
  obtain ⟨l, m, c, b, ls, hd, hh, ht, hlo, hG, hb⟩ := hD.ex
  have hsz := hD.fr.size
  have hp := hlo p (by simp); have hl := hlo l (by simp); have hm := hlo m (by simp)
  refine (st_open wr p l m 340 340 b _ hd (by omega) (by omega) ⟨rfl, rfl, hh⟩).mono ?_
  rintro e w' ⟨s', bs, rfl, hfr, hs, hbs, hst⟩
  obtain ⟨bs2, htr, hst2⟩ := hst.trim
  have hfit : Fit (Sv.new (Dv.read ⟨c, -1, false, ls, fun _ => none⟩ 0).2) := Fit.new ⟨rfl, by show (-1 : Int) < 0; omega⟩ rfl hh
  have htl : ∀ i, i < 16 → (Sv.new (Dv.read ⟨c, -1, false, ls, fun _ => none⟩ 0).2).tell i = kindN (done i) := fun i hi => by
    rw [hfit.tell_ls rfl rfl, ← ht i hi]
    rfl
  refine ⟨s', rfl, ⟨⟨bs2, l, m, _, _, hst2, hfit, rfl, fun x hx => ⟨?_, (htr x hx).2⟩, htl, htl, fun i hi => (by cases hi), fun y hy hx => ?_, fun h => (by cases h), by omega⟩, fun y hy => hfr.keep (hD.keep y hy) (by have := hG y hy; simp; omega), hD.fr.trans_new hfr (fun x hx => by simp at hx; omega)⟩⟩
  · have := hbs x (htr x hx).1; omega
  · have h1 := hbs _ (htr _ hx).1
    have h2 := lt_of_heap (hD.keep y hy)
    have h3 := hG y hy
    omega
end
end Go.Proofs.Ytoifpbifipgpkaa
