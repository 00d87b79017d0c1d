/-
  wal: a store as a whole, as a plain value.
-/
import Derived.Test.YtoifpbifipgpkaaWal24
import Derived.Test.YtoifpbifipgpkaaWal11
namespace Go.Proofs.Ytoifpbifipgpkaa
open Go.RowKit Go.MapKept
/-- What a store is: its device, the change under way with how many sectors it has, what waits, the counts. -/
structure Sv where
  v : Dv
  U : Int → Option (List UInt8)
  k : Nat
  Cs : List (Int → Option (List UInt8))
  ks : List Nat
  all : Int
  last : Int
  gone : Bool
/-- Where it lies: bs are its blocks. -/
structure Lies (w : World) (bs : List Nat) (s p l m n : Nat) (S : Sv) (u : Nat) (wv : Value) (ms : List Nat) (B : Nat) : Prop where
  box : StoreBox w s p u wv S.all S.last S.gone
  und : ChAt w u n S.U
  own : w.ownsRow B 85 1 wv ms.length (ms.map fun m => Value.map (some m))
  top : s < B ∧ p < B ∧ l < B ∧ m < B ∧ B ≤ w.heap.size
  len : ms.length = S.Cs.length
  wts : ∀ j, j < ms.length → ChAt w (ms.getD j 0) n (S.Cs.getD j (fun _ => none))
  usep : u ≠ s ∧ u ≠ p ∧ u ≠ l ∧ u ≠ m
  msep : ∀ x ∈ ms, x ≠ s ∧ x ≠ p ∧ x ≠ l ∧ x ≠ m ∧ x ≠ u
  bs4 : s ∈ bs ∧ p ∈ bs ∧ l ∈ bs ∧ m ∈ bs ∧ u ∈ bs
  bsm : ∀ x ∈ ms, x ∈ bs
  bsr : ∀ g, wv.ownBlock = some g → g ∈ bs
structure StAt (w : World) (bs : List Nat) (s p l m n q : Nat) (b : Int) (S : Sv) : Prop where
  lies : ∃ u wv ms B, Lies w bs s p l m n S u wv ms B
  dev : DvAt w p l m n q b S.v
  sep : s ≠ p ∧ s ≠ l ∧ s ≠ m
  card : Card S.U S.k
  k128 : S.k ≤ 128
  klen : S.ks.length = S.Cs.length
  cards : ∀ j, j < S.Cs.length → Card (S.Cs.getD j (fun _ => none)) (S.ks.getD j 0)
  k1 : ∀ x ∈ S.ks, x ≤ 128
  room : S.ks.sum ≤ 256
  c16 : S.Cs.length ≤ 16
  n300 : 300 < n
  cnt : 0 ≤ S.all
theorem own_keepF {w w' : World} {B : Nat} {T : TypeId} {k : Nat} {v : Value} {N : Nat} {xs : List Value} (h : w.ownsRow B T k v N xs) {r : List Nat} (hf : Fr r w w') (hr : ∀ g, v.ownBlock = some g → g ∉ r) : w'.ownsRow B T k v N xs := by
  refine ⟨h.1, ?_⟩
  rcases h.2 with h1 | ⟨g, cap, cur, h3, h4, h5, h6⟩
  · exact .inl h1
  · exact .inr ⟨g, cap, cur, h3, h4, hf.keep h5 (hr g (by rw [h3]; rfl)), h6⟩
theorem own_B {w : World} {B : Nat} {T : TypeId} {k : Nat} {v : Value} {N : Nat} {xs : List Value} (h : w.ownsRow B T k v N xs) {g : Nat} (hg : v.ownBlock = some g) : B ≤ g ∧ g < w.heap.size ∧ ∃ cur, w.heap[g]? = some (.cells cur T (0, 0)) := by
  rcases h.2 with ⟨h1, _⟩ | ⟨g', cap, cur, h3, h4, h5, h6⟩
  · rw [h1] at hg; cases hg
  · rw [h3] at hg; cases hg; exact ⟨h4, lt_of_heap h5, cur, h5⟩
theorem getD_mem {ms : List Nat} {j : Nat} (h : j < ms.length) : ms.getD j 0 ∈ ms := by
  have e : ms.getD j 0 = ms[j] := by simp [h]
  rw [e]; exact List.getElem_mem _
theorem mem_getD {ms : List Nat} {x : Nat} (h : x ∈ ms) : ∃ j, j < ms.length ∧ ms.getD j 0 = x := by
  obtain ⟨j, hj, e⟩ := List.getElem_of_mem h
  exact ⟨j, hj, by simp [hj, e]⟩
/-- What is not the store's turns, and the store lies as it lay. -/
theorem StAt.keep {w w' : World} {bs : List Nat} {s p l m n q : Nat} {b : Int} {S : Sv} (h : StAt w bs s p l m n q b S) {r : List Nat} (hf : Fr r w w') (hr : ∀ x ∈ r, x ∉ bs) : StAt w' bs s p l m n q b S := by
  obtain ⟨u, wv, ms, B, hl⟩ := h.lies
  have hn : ∀ x, x ∈ bs → x ∉ r := fun x hx hxr => hr x hxr hx
  refine ⟨⟨u, wv, ms, B, ⟨hf.keep hl.box (hn _ hl.bs4.1), hl.und.keep hf (hn _ hl.bs4.2.2.2.2), own_keepF hl.own hf (fun g hg => hn _ (hl.bsr g hg)), ⟨hl.top.1, hl.top.2.1, hl.top.2.2.1, hl.top.2.2.2.1, by have := hf.size; have := hl.top.2.2.2.2; omega⟩, hl.len,
    fun j hj => (hl.wts j hj).keep hf (hn _ (hl.bsm _ (getD_mem hj))), hl.usep, hl.msep, hl.bs4, hl.bsm, hl.bsr⟩⟩, h.dev.keep hf (hn _ hl.bs4.2.1) (hn _ hl.bs4.2.2.1) (hn _ hl.bs4.2.2.2.1), h.sep, h.card, h.k128, h.klen, h.cards, h.k1, h.room, h.c16, h.n300, h.cnt⟩
theorem StAt.more {w : World} {bs : List Nat} {s p l m n q : Nat} {b b' : Int} {S : Sv} (h : StAt w bs s p l m n q b S) (hb : b ≤ b') : StAt w bs s p l m n q b' S :=
  ⟨h.lies, h.dev.more hb, h.sep, h.card, h.k128, h.klen, h.cards, h.k1, h.room, h.c16, h.n300, h.cnt⟩
/-- bs' is bs, and what is new. -/
def Grew (w : World) (bs bs' : List Nat) : Prop := ∀ x ∈ bs', x ∈ bs ∨ w.heap.size ≤ x
/-- The blocks of a store are there. -/
theorem Lies.low {w : World} {bs : List Nat} {s p l m n : Nat} {S : Sv} {u : Nat} {wv : Value} {ms : List Nat} {B : Nat} (h : Lies w bs s p l m n S u wv ms B) : s < w.heap.size ∧ p < w.heap.size ∧ l < w.heap.size ∧ m < w.heap.size ∧ u < w.heap.size ∧ ∀ x ∈ ms, x < w.heap.size := by
  obtain ⟨h1, h2, h3, h4, h5⟩ := h.top
  refine ⟨by omega, by omega, by omega, by omega, h.und.map.lt, fun x hx => ?_⟩
  obtain ⟨j, hj, rfl⟩ := mem_getD hx
  exact (h.wts j hj).map.lt
/-- A row's block is none of the others. -/
theorem Lies.row {w : World} {bs : List Nat} {s p l m n : Nat} {S : Sv} {u : Nat} {wv : Value} {ms : List Nat} {B : Nat} (h : Lies w bs s p l m n S u wv ms B) {g : Nat} (hg : wv.ownBlock = some g) : g ≠ s ∧ g ≠ p ∧ g ≠ l ∧ g ≠ m ∧ g ≠ u ∧ g ∉ ms := by
  obtain ⟨h1, h2, h3, h4, h5⟩ := h.top
  obtain ⟨hb, _, cur, hc⟩ := own_B h.own hg
  refine ⟨by omega, by omega, by omega, by omega, fun e => ?_, fun hx => ?_⟩
  · obtain ⟨es, clk, hm, _⟩ := h.und.map
    rw [← e, hc] at hm; cases hm
  · obtain ⟨j, hj, e⟩ := mem_getD hx
    obtain ⟨es, clk, hm, _⟩ := (h.wts j hj).map
    rw [e, hc] at hm; cases hm
/-- The store's box alone turns. -/
theorem Lies.rebox {w w' : World} {bs : List Nat} {s p l m n : Nat} {S : Sv} {u : Nat} {wv : Value} {ms : List Nat} {B : Nat} (h : Lies w bs s p l m n S u wv ms B) (hf : Fr [s] w w') {S' : Sv} (hb : StoreBox w' s p u wv S'.all S'.last S'.gone) (hU : S'.U = S.U) (hC : S'.Cs = S.Cs) : Lies w' bs s p l m n S' u wv ms B :=
  ⟨hb, by rw [hU]; exact h.und.keep hf (by simpa using h.usep.1), own_keepF h.own hf (fun g hg => by simpa using (h.row hg).1), ⟨h.top.1, h.top.2.1, h.top.2.2.1, h.top.2.2.2.1, by have := hf.size; have := h.top.2.2.2.2; omega⟩, by rw [hC]; exact h.len,
    fun j hj => by rw [hC]; exact (h.wts j hj).keep hf (by simpa using (h.msep _ (getD_mem hj)).1), h.usep, h.msep, h.bs4, h.bsm, h.bsr⟩
theorem StAt.rebox {w w' : World} {bs : List Nat} {s p l m n q : Nat} {b : Int} {S : Sv} (h : StAt w bs s p l m n q b S) {u : Nat} {wv : Value} {ms : List Nat} {B : Nat} (hl : Lies w bs s p l m n S u wv ms B) (hf : Fr [s] w w') (all last : Int) (gone : Bool) (hb : StoreBox w' s p u wv all last gone) (ha : 0 ≤ all) :
    StAt w' bs s p l m n q b { S with all, last, gone } ∧ Fr bs w w' :=
  ⟨⟨⟨u, wv, ms, B, hl.rebox hf hb rfl rfl⟩, h.dev.keep hf (by simpa using fun e => h.sep.1 e.symm) (by simpa using fun e => h.sep.2.1 e.symm) (by simpa using fun e => h.sep.2.2 e.symm), h.sep, h.card, h.k128, h.klen, h.cards, h.k1, h.room, h.c16, h.n300, ha⟩, hf.mono (by intro x hx; simp at hx; subst hx; exact hl.bs4.1)⟩
section
variable {w : World} {bs : List Nat} {s p l m n q : Nat} {b : Int} {S : Sv}
/-- The number of a sector that there is. -/
theorem st_write (h : StAt w bs s p l m n q b S) (hg : S.gone = false) (hv : S.v.d = false) (i : Nat) (hi : i + 300 < n) (g o cap : Nat) (x : List UInt8) (hx : x.length = 64) (hr : w.rangeAt g o (cel x)) (hgb : g ∉ bs) (hroom : (S.U i).isSome = true ∨ S.k < 128) :
    Calls Try.prog 13 #[.pointer (some ⟨s, 0, none⟩), .int .i64 i, .slice (some ⟨g, o, none⟩) 64 cap] w fun e w' => e = .returned (.int .i64 0) ∧ Fr bs w w' ∧ StAt w' bs s p l m n q b { S with U := wrote S.U i x, k := if (S.U i).isSome then S.k else S.k + 1 } := by
  obtain ⟨u, wv, ms, B, hl⟩ := h.lies
  have hb := hl.box
  rw [hg] at hb
  refine (swrite_ok w s p u l m n q wv S.all S.last b S.v S.U S.k hb h.dev hv hl.und h.card (fun e => hl.usep.1 e.symm) ⟨h.sep.1, h.sep.2.1, h.sep.2.2, hl.usep.2.1, hl.usep.2.2.1, hl.usep.2.2.2⟩ i (by omega) g o cap x hx hr ⟨fun e => hgb (by rw [e]; exact hl.bs4.1), fun e => hgb (by rw [e]; exact hl.bs4.2.2.2.2)⟩ hroom).mono ?_
  rintro e w' ⟨rfl, hf, hb', hU'⟩
  have hfb : Fr bs w w' := hf.mono (by intro x hx; simp at hx; rcases hx with rfl | rfl; exact hl.bs4.1; exact hl.bs4.2.2.2.2)
  refine ⟨rfl, hfb, ⟨⟨u, wv, ms, B, ⟨?_, hU', ?_, ?_, hl.len, ?_, hl.usep, hl.msep, hl.bs4, hl.bsm, hl.bsr⟩⟩, ?_, h.sep, ?_, ?_, h.klen, h.cards, h.k1, h.room, h.c16, h.n300, h.cnt⟩⟩
  · simpa [hg] using hb'
  · exact own_keepF hl.own hf (fun g hg => by have := hl.row hg; simp; exact ⟨this.1, this.2.2.2.2.1⟩)
  · exact ⟨hl.top.1, hl.top.2.1, hl.top.2.2.1, hl.top.2.2.2.1, by have := hf.size; have := hl.top.2.2.2.2; omega⟩
  · exact fun j hj => (hl.wts j hj).keep hf (by have := hl.msep _ (getD_mem hj); simp; exact ⟨this.1, this.2.2.2.2⟩)
  · exact h.dev.keep hf (by have := h.sep; have := hl.usep; simp; omega) (by have := h.sep; have := hl.usep; simp; omega) (by have := h.sep; have := hl.usep; simp; omega)
  · cases hUi : S.U i with
    | none => exact h.card.new hUi
    | some t => exact h.card.old hUi
  · have := h.k128
    simp only
    split
    · exact this
    · rename_i hn
      rcases hroom with h1 | h1
      · exact absurd h1 hn
      · omega
theorem st_write_big (h : StAt w bs s p l m n q b S) (hg : S.gone = false) (hv : S.v.d = false) (i : Nat) (hi : i + 300 < n) (g o cap : Nat) (x : List UInt8) (hx : x.length = 64) (hr : w.rangeAt g o (cel x)) (hgb : g ∉ bs) (hU : S.U i = none) (hk : S.k = 128) :
    Calls Try.prog 13 #[.pointer (some ⟨s, 0, none⟩), .int .i64 i, .slice (some ⟨g, o, none⟩) 64 cap] w fun e w' => e = .returned (.int .i64 5) ∧ Fr bs w w' ∧ StAt w' bs s p l m n q b S := by
  obtain ⟨u, wv, ms, B, hl⟩ := h.lies
  have hb := hl.box
  rw [hg] at hb
  refine (swrite_big w s p u l m n q wv S.all S.last b S.v S.U S.k hb h.dev hv hl.und h.card (fun e => hl.usep.1 e.symm) ⟨h.sep.1, h.sep.2.1, h.sep.2.2, hl.usep.2.1, hl.usep.2.2.1, hl.usep.2.2.2⟩ i (by omega) g o cap x hx hr ⟨fun e => hgb (by rw [e]; exact hl.bs4.1), fun e => hgb (by rw [e]; exact hl.bs4.2.2.2.2)⟩ hU hk).mono ?_
  rintro e w' ⟨rfl, hf, hb'⟩
  obtain ⟨h1, h2⟩ := h.rebox hl hf S.all S.last S.gone (by rw [hg]; exact hb') h.cnt
  exact ⟨rfl, h2, h1⟩
theorem st_write_arg (h : StAt w bs s p l m n q b S) (hg : S.gone = false) (hv : S.v.d = false) (i : Int) (ad : Option Addr) (k cap : Nat) (ho : (decide (0 ≤ i) && decide (i < roomI n)) = false ∨ k ≠ 64) :
    Calls Try.prog 13 #[.pointer (some ⟨s, 0, none⟩), .int .i64 i, .slice ad k cap] w fun e w' => e = .returned (.int .i64 1) ∧ Fr bs w w' ∧ StAt w' bs s p l m n q b S := by
  obtain ⟨u, wv, ms, B, hl⟩ := h.lies
  have hb := hl.box
  rw [hg] at hb
  refine (swrite_arg w s p u l m n q wv S.all S.last b S.v hb h.dev hv h.sep i ad k cap ho).mono ?_
  rintro e w' ⟨rfl, hf, hb'⟩
  obtain ⟨h1, h2⟩ := h.rebox hl hf S.all S.last S.gone (by rw [hg]; exact hb') h.cnt
  exact ⟨rfl, h2, h1⟩
theorem st_write_dead (h : StAt w bs s p l m n q b S) (hv : (S.gone || S.v.d) = true) (i : Int) (x : Value) :
    Calls Try.prog 13 #[.pointer (some ⟨s, 0, none⟩), .int .i64 i, x] w fun e w' => e = .returned (.int .i64 50) ∧ Fr bs w w' ∧ StAt w' bs s p l m n q b { S with gone := true } := by
  obtain ⟨u, wv, ms, B, hl⟩ := h.lies
  refine (swrite_dead w s p u l m n q wv S.all S.last S.gone b S.v hl.box h.dev hv i x).mono ?_
  rintro e w' ⟨rfl, hf, hb'⟩
  obtain ⟨h1, h2⟩ := h.rebox hl hf S.all S.last true hb' h.cnt
  exact ⟨rfl, h2, h1⟩
theorem st_commits (h : StAt w bs s p l m n q b S) :
    Calls Try.prog 17 #[.pointer (some ⟨s, 0, none⟩)] w fun e w' => e = .returned (.tuple #[.int .i64 S.all, .int .i64 S.last]) ∧ Fr [] w w' := by
  obtain ⟨u, wv, ms, B, hl⟩ := h.lies
  exact commits_calls w s p u wv S.all S.last S.gone hl.box
theorem st_abort (h : StAt w bs s p l m n q b S) :
    Calls Try.prog 25 #[.pointer (some ⟨s, 0, none⟩)] w fun e w' => ∃ bs', e = .returned (.tuple #[]) ∧ Fr bs w w' ∧ Grew w bs bs' ∧ StAt w' bs' s p l m n q b { S with U := fun _ => none, k := 0 } := by
  obtain ⟨u, wv, ms, B, hl⟩ := h.lies
  have hlow := hl.low
  refine (abort_calls w s p u wv S.all S.last S.gone hl.box).mono ?_
  rintro e w' ⟨u', rfl, hu', hf, hb', hm'⟩
  refine ⟨u' :: bs, rfl, hf.mono (by intro x hx; simp at hx; subst hx; exact hl.bs4.1), fun x hx => by rcases List.mem_cons.1 hx with rfl | h; exact .inr hu'; exact .inl h, ⟨⟨u', wv, ms, B, ⟨hb', ⟨hm', fun i s h => by cases h⟩, own_keepF hl.own hf (fun g hg => by simpa using (hl.row hg).1), ⟨hl.top.1, hl.top.2.1, hl.top.2.2.1, hl.top.2.2.2.1, by have := hf.size; have := hl.top.2.2.2.2; omega⟩, hl.len,
    fun j hj => (hl.wts j hj).keep hf (by simpa using (hl.msep _ (getD_mem hj)).1), by omega, fun x hx => by have := hl.msep x hx; have := hlow.2.2.2.2.2 x hx; omega, ?_, fun x hx => List.mem_cons_of_mem _ (hl.bsm x hx), fun g hg => List.mem_cons_of_mem _ (hl.bsr g hg)⟩⟩, ?_, h.sep, Card.empty, by simp, h.klen, h.cards, h.k1, h.room, h.c16, h.n300, h.cnt⟩⟩
  · exact ⟨List.mem_cons_of_mem _ hl.bs4.1, List.mem_cons_of_mem _ hl.bs4.2.1, List.mem_cons_of_mem _ hl.bs4.2.2.1, List.mem_cons_of_mem _ hl.bs4.2.2.2.1, by simp⟩
  · exact h.dev.keep hf (by simpa using fun e => h.sep.1 e.symm) (by simpa using fun e => h.sep.2.1 e.symm) (by simpa using fun e => h.sep.2.2 e.symm)
end
end Go.Proofs.Ytoifpbifipgpkaa
