/-
  wal: a store as a whole: Commit, Sync, Read, Open.
-/
import Derived.Test.YtoifpbifipgpkaaWal25
namespace Go.Proofs.Ytoifpbifipgpkaa
open Go.RowKit Go.MapKept
/-- What a settle makes of a store. -/
def Sv.settled (S : Sv) (kk : List Int) : Int × Sv :=
  ((S.v.settle (overL S.Cs) kk S.all S.last).1, if (S.v.settle (overL S.Cs) kk S.all S.last).1 = 0 then { S with v := (S.v.settle (overL S.Cs) kk S.all S.last).2.1, Cs := [], ks := [], last := (S.v.settle (overL S.Cs) kk S.all S.last).2.2 }
    else { S with v := (S.v.settle (overL S.Cs) kk S.all S.last).2.1, U := fun _ => none, k := 0, Cs := [], ks := [], last := (S.v.settle (overL S.Cs) kk S.all S.last).2.2, gone := true })
/-- What a Commit makes of it, where there is place. -/
def Sv.push (S : Sv) : Sv := if 0 < S.k then { S with Cs := S.Cs ++ [S.U], ks := S.ks ++ [S.k], U := fun _ => none, k := 0, all := S.all + 1 } else { S with all := S.all + 1, last := if S.Cs.length = 0 then S.all + 1 else S.last }
/-- There is no place. -/
def Sv.crowd (S : Sv) : Bool := decide (S.Cs.length = 16) || decide (256 < S.k + S.ks.sum)
/-- What it tells of a sector. -/
def Sv.tell (S : Sv) (i : Nat) : List UInt8 := ((S.U i).or (overL S.Cs i)).getD (S.v.text (300 + i))
theorem getD_snoc_lt {α : Type} (l : List α) (x d : α) {j : Nat} (h : j < l.length) : (l ++ [x]).getD j d = l.getD j d := by simp [List.getD_eq_getElem?_getD, List.getElem?_append_left h]
theorem getD_snoc_eq {α : Type} (l : List α) (x d : α) : (l ++ [x]).getD l.length d = x := by simp [List.getD_eq_getElem?_getD]
section
variable {w : World} {bs : List Nat} {s p l m n q : Nat} {b : Int} {S : Sv}
theorem StAt.overCard (h : StAt w bs s p l m n q b S) : ∃ K, K ≤ 256 ∧ Card (overL S.Cs) K := by
  obtain ⟨K, h1, h2⟩ := Card.overL_le h.klen h.cards S.Cs.length (Nat.le_refl _)
  rw [List.take_length] at h2
  rw [← h.klen, List.take_length] at h1
  have := h.room
  exact ⟨K, by omega, h2⟩
theorem Lies.frL {u : Nat} {wv : Value} {ms : List Nat} {B : Nat} (hl : Lies w bs s p l m n S u wv ms B) {w' : World} (h1 : ∀ k, wv.ownBlock = some k → Fr [s, k] w w') (h2 : wv.ownBlock = none → Fr [s] w w') : ∃ L, Fr L w w' ∧ ∀ x ∈ L, x = s ∨ wv.ownBlock = some x := by
  cases hw : wv.ownBlock with
  | none => exact ⟨_, h2 hw, fun x hx => .inl (by simpa using hx)⟩
  | some k => exact ⟨_, h1 k hw, fun x hx => by simp at hx; rcases hx with rfl | rfl; exact .inl rfl; exact .inr rfl⟩
theorem st_commit (h : StAt w bs s p l m n q b S) (hg : S.gone = false) (hv : S.v.d = false) (hc : S.crowd = false) (hall : S.all < 9000000000000000000) :
    Calls Try.prog 15 #[.pointer (some ⟨s, 0, none⟩)] w fun e w' => ∃ bs', e = .returned (.int .i64 0) ∧ Fr bs w w' ∧ Grew w bs bs' ∧ StAt w' bs' s p l m n q b S.push := by
  obtain ⟨u, wv, ms, B, hl⟩ := h.lies
  have hlow := hl.low
  have hb := hl.box
  rw [hg] at hb
  unfold Sv.crowd at hc
  simp only [Bool.or_eq_false_iff, decide_eq_false_iff_not] at hc
  have hc16 := h.c16
  have hl16 : ms.length < 16 := by have := hl.len; omega
  have hks : ∀ x ∈ S.ks, x ≤ 8192 := fun x hx => by have := h.k1 x hx; omega
  have hlk : ms.length = S.ks.length := by rw [hl.len, h.klen]
  by_cases hk : 0 < S.k
  · refine (commit_full w s p u l m n q wv S.all S.last b S.v hb h.dev hv h.sep S.k (MapOf.card hl.und h.card) ⟨hk, h.k128⟩ hl.usep.1 B hl.top.2.2.2.2 hl.top.1 ms S.ks hlk hl16 hl.own
      (fun j hj => ⟨MapOf.card (hl.wts j hj) (h.cards j (by rw [← hl.len]; exact hj)), (hl.msep _ (getD_mem hj)).1⟩) hks (by omega) ⟨h.cnt, hall⟩).mono ?_
    rintro e w' ⟨u', wv', rfl, hu', hb', hm', ho', hf1, hf2, hat⟩
    obtain ⟨L, hf, hL⟩ := hl.frL hf1 hf2
    have hLn : ∀ x, x ≠ s → wv.ownBlock ≠ some x → x ∉ L := fun x h1 h2 h3 => by rcases hL x h3 with h | h; exact h1 h; exact h2 h
    have hLm : ∀ x, x ∈ ms → x ∉ L := fun x hx => hLn x (hl.msep x hx).1 (fun e => (hl.row e).2.2.2.2.2 hx)
    have hsz := hf.size
    refine ⟨u' :: (wv'.ownBlock.toList ++ bs), rfl, hf.mono (fun x hx => ?_), fun x hx => ?_, ?_⟩
    · rcases hL x hx with rfl | h
      · exact hl.bs4.1
      · exact hl.bsr x h
    · simp only [List.mem_cons, List.mem_append, Option.mem_toList] at hx
      rcases hx with rfl | hx | hx
      · exact .inr hu'
      · rcases hat x hx with h | h
        · exact .inl (hl.bsr x h)
        · exact .inr h
      · exact .inl hx
    · unfold Sv.push
      rw [if_pos hk]
      refine ⟨⟨u', wv', ms ++ [u], B, ⟨by simpa [hg] using hb', ⟨hm', fun i s h => by cases h⟩, by rw [List.length_append]; exact ho', ?_, by simp [hl.len], ?_, by omega, ?_, ?_, ?_, ?_⟩⟩, h.dev.keep hf (hLn _ (fun e => h.sep.1 e.symm) (fun e => (hl.row e).2.1 rfl)) (hLn _ (fun e => h.sep.2.1 e.symm) (fun e => (hl.row e).2.2.1 rfl)) (hLn _ (fun e => h.sep.2.2 e.symm) (fun e => (hl.row e).2.2.2.1 rfl)), h.sep, Card.empty, by simp, by simp [h.klen], ?_, ?_, ?_, ?_, h.n300, ?_⟩
      · have := hl.top; exact ⟨this.1, this.2.1, this.2.2.1, this.2.2.2.1, by omega⟩
      · intro j hj
        rw [List.length_append, List.length_singleton] at hj
        by_cases hj2 : j < ms.length
        · rw [getD_snoc_lt _ _ _ hj2, getD_snoc_lt _ _ _ (by rw [← hl.len]; exact hj2)]
          exact (hl.wts j hj2).keep hf (hLm _ (getD_mem hj2))
        · obtain rfl : j = ms.length := by omega
          rw [getD_snoc_eq]
          simp only
          rw [hl.len, getD_snoc_eq]
          exact hl.und.keep hf (hLn _ hl.usep.1 (fun e => (hl.row e).2.2.2.2.1 rfl))
      · intro x hx
        rcases List.mem_append.1 hx with hx | hx
        · have := hl.msep x hx; have := hlow.2.2.2.2.2 x hx; omega
        · obtain rfl : x = u := by simpa using hx
          have := hl.usep; omega
      · exact ⟨by simp [hl.bs4.1], by simp [hl.bs4.2.1], by simp [hl.bs4.2.2.1], by simp [hl.bs4.2.2.2.1], by simp⟩
      · intro x hx
        rcases List.mem_append.1 hx with hx | hx
        · simp [hl.bsm x hx]
        · obtain rfl : x = u := by simpa using hx
          simp [hl.bs4.2.2.2.2]
      · intro g hg; simp [hg]
      · intro j hj
        simp only [List.length_append, List.length_singleton] at hj
        by_cases hj2 : j < S.Cs.length
        · simp only
          rw [getD_snoc_lt _ _ _ hj2, getD_snoc_lt _ _ _ (by rw [h.klen]; exact hj2)]
          exact h.cards j hj2
        · obtain rfl : j = S.Cs.length := by omega
          simp only
          rw [getD_snoc_eq, ← h.klen, getD_snoc_eq]
          exact h.card
      · intro x hx
        rcases List.mem_append.1 hx with hx | hx
        · exact h.k1 x hx
        · obtain rfl : x = S.k := by simpa using hx
          exact h.k128
      · simp; omega
      · simp; omega
      · have := h.cnt; simp only; omega
  · have hk0 : S.k = 0 := by omega
    have hcd := h.card
    rw [hk0] at hcd
    refine (commit_none w s p u l m n q wv S.all S.last b S.v hb h.dev hv h.sep (MapOf.card hl.und hcd) hl.usep.1 B hl.top.1 ms S.ks hlk hl16 hl.own
      (fun j hj => ⟨MapOf.card (hl.wts j hj) (h.cards j (by rw [← hl.len]; exact hj)), (hl.msep _ (getD_mem hj)).1⟩) hks (by have := h.room; omega) ⟨h.cnt, hall⟩).mono ?_
    rintro e w' ⟨rfl, hf, hb'⟩
    have hcnt := h.cnt
    obtain ⟨h1, h2⟩ := h.rebox hl hf (S.all + 1) (if ms.length = 0 then S.all + 1 else S.last) S.gone (by rw [hg]; exact hb') (by omega)
    refine ⟨bs, rfl, h2, fun x hx => .inl hx, ?_⟩
    unfold Sv.push
    rw [if_neg hk, ← hl.len]
    exact h1
/-- What is new about a settle's store. -/
theorem Lies.settled {u : Nat} {wv : Value} {ms : List Nat} {B : Nat} (hl : Lies w bs s p l m n S u wv ms B) {w' : World} (hf : Fr [s, p, l, m] w w') {S' : Sv} {u' : Nat} (hb : StoreBox w' s p u' (.slice none 0 0) S'.all S'.last S'.gone) (hu : ChAt w' u' n S'.U) (hu' : u' = u ∨ w.heap.size ≤ u') (hC : S'.Cs = []) :
    Lies w' (u' :: bs) s p l m n S' u' (.slice none 0 0) [] B := by
  have hlow := hl.low
  have hsz := hf.size
  refine ⟨hb, hu, World.ownsRow_nil _ _ _ _, by have := hl.top; omega, by rw [hC]; rfl, fun j hj => absurd hj (by simp), ?_, by simp, ?_, by simp, fun g hg => by cases hg⟩
  · rcases hu' with rfl | h
    · exact hl.usep
    · omega
  · exact ⟨by simp [hl.bs4.1], by simp [hl.bs4.2.1], by simp [hl.bs4.2.2.1], by simp [hl.bs4.2.2.2.1], by simp⟩
theorem Lies.fr4 {u : Nat} {wv : Value} {ms : List Nat} {B : Nat} (hl : Lies w bs s p l m n S u wv ms B) {w' : World} (hf : Fr [s, p, l, m] w w') : Fr bs w w' :=
  hf.mono (fun x hx => by simp at hx; rcases hx with rfl | rfl | rfl | rfl; exact hl.bs4.1; exact hl.bs4.2.1; exact hl.bs4.2.2.1; exact hl.bs4.2.2.2.1)
theorem Lies.grew {u : Nat} {wv : Value} {ms : List Nat} {B : Nat} (hl : Lies w bs s p l m n S u wv ms B) {u' : Nat} (hu' : u' = u ∨ w.heap.size ≤ u') : Grew w bs (u' :: bs) := fun x hx => by
  rcases List.mem_cons.1 hx with rfl | hx
  · rcases hu' with rfl | h
    · exact .inl hl.bs4.2.2.2.2
    · exact .inr h
  · exact .inl hx
theorem StAt.empty (h : StAt w bs s p l m n q b S) {w' : World} {bs' : List Nat} {b' : Int} {S' : Sv} (hl : ∃ u wv ms B, Lies w' bs' s p l m n S' u wv ms B) (hd : DvAt w' p l m n q b' S'.v) (hk : Card S'.U S'.k) (hk2 : S'.k ≤ 128) (hC : S'.Cs = []) (hks : S'.ks = []) (ha : 0 ≤ S'.all) : StAt w' bs' s p l m n q b' S' :=
  ⟨hl, hd, h.sep, hk, hk2, by rw [hC, hks]; rfl, by rw [hC]; intro j hj; simp at hj, by rw [hks]; simp, by rw [hks]; simp, by rw [hC]; simp, h.n300, ha⟩
theorem st_sync (h : StAt w bs s p l m n q b S) (hg : S.gone = false) (hv : S.v.d = false) (h0 : 0 < S.Cs.length) (hb : b < 8999999999998000000) :
    Calls Try.prog 16 #[.pointer (some ⟨s, 0, none⟩)] w fun e w' => ∃ bs' kk, KeysOf (overL S.Cs) kk ∧ e = .returned (.int .i64 (S.settled kk).1) ∧ Fr bs w w' ∧ Grew w bs bs' ∧ StAt w' bs' s p l m n q (b + n + 400) (S.settled kk).2 := by
  obtain ⟨u, wv, ms, B, hl⟩ := h.lies
  obtain ⟨K, hK2, hK⟩ := h.overCard
  have hbx := hl.box
  rw [hg] at hbx
  refine (sync_full w s p u l m n q wv S.all S.last b S.v hbx h.dev hv hb h.n300 h.sep B hl.top.1 ms S.Cs (by rw [hl.len]; exact h0) (by rw [hl.len]; exact h.c16) hl.len hl.own (fun j hj => ⟨hl.wts j hj, (hl.msep _ (getD_mem hj)).1⟩) _ rfl K hK hK2).mono ?_
  rintro e w' ⟨kk, hkk, rfl, hf, hd, hbad, hgood⟩
  have hu := hl.und.keep hf (by have := hl.usep; simp; omega)
  by_cases hc : (S.v.settle (overL S.Cs) kk S.all S.last).1 = 0
  · have hS : S.settled kk = (0, { S with v := (S.v.settle (overL S.Cs) kk S.all S.last).2.1, Cs := [], ks := [], last := (S.v.settle (overL S.Cs) kk S.all S.last).2.2 }) := by unfold Sv.settled; rw [if_pos hc, hc]
    refine ⟨u :: bs, kk, hkk, by rw [hS, hc], hl.fr4 hf, hl.grew (.inl rfl), ?_⟩
    rw [hS]
    exact h.empty ⟨_, _, _, _, hl.settled hf (by simpa [hg] using hgood hc) hu (.inl rfl) rfl⟩ hd h.card h.k128 rfl rfl h.cnt
  · obtain ⟨u', hu', hmu, hbu⟩ := hbad hc
    have hS : S.settled kk = ((S.v.settle (overL S.Cs) kk S.all S.last).1, { S with v := (S.v.settle (overL S.Cs) kk S.all S.last).2.1, U := fun _ => none, k := 0, Cs := [], ks := [], last := (S.v.settle (overL S.Cs) kk S.all S.last).2.2, gone := true }) := by unfold Sv.settled; rw [if_neg hc]
    refine ⟨u' :: bs, kk, hkk, by rw [hS], hl.fr4 hf, hl.grew (.inr hu'), ?_⟩
    rw [hS]
    exact h.empty ⟨_, _, _, _, hl.settled hf hbu ⟨hmu, fun i s h => by cases h⟩ (.inr hu') rfl⟩ hd Card.empty (by simp) rfl rfl h.cnt
theorem st_sync_none (h : StAt w bs s p l m n q b S) (hg : S.gone = false) (hv : S.v.d = false) (h0 : S.Cs = []) :
    Calls Try.prog 16 #[.pointer (some ⟨s, 0, none⟩)] w fun e w' => e = .returned (.int .i64 0) ∧ Fr bs w w' ∧ StAt w' bs s p l m n q b S := by
  obtain ⟨u, wv, ms, B, hl⟩ := h.lies
  have hbx := hl.box
  rw [hg] at hbx
  have hz : ms.length = 0 := by rw [hl.len, h0]; rfl
  obtain ⟨ad, cap, rfl⟩ : ∃ ad cap, wv = .slice ad 0 cap := by
    rcases hl.own.2 with ⟨h1, h2⟩ | ⟨g, cap, cur, h3, _⟩
    · exact ⟨none, 0, h1⟩
    · exact ⟨_, cap, by rw [h3, hz]⟩
  refine (sync_none w s p u l m n q S.all S.last b S.v ad cap hbx h.dev hv).mono ?_
  rintro e w' ⟨rfl, hf, hb'⟩
  obtain ⟨h1, h2⟩ := h.rebox hl hf S.all S.last S.gone (by rw [hg]; exact hb') h.cnt
  exact ⟨rfl, h2, h1⟩
theorem st_sync_dead (h : StAt w bs s p l m n q b S) (hv : (S.gone || S.v.d) = true) :
    Calls Try.prog 16 #[.pointer (some ⟨s, 0, none⟩)] w fun e w' => e = .returned (.int .i64 50) ∧ Fr bs w w' ∧ StAt w' bs s p l m n q b { S with gone := true } := by
  obtain ⟨u, wv, ms, B, hl⟩ := h.lies
  refine (sync_dead w s p u l m n q wv S.all S.last S.gone b S.v hl.box h.dev hv).mono ?_
  rintro e w' ⟨rfl, hf, hb'⟩
  obtain ⟨h1, h2⟩ := h.rebox hl hf S.all S.last true hb' h.cnt
  exact ⟨rfl, h2, h1⟩
theorem st_commit_dead (h : StAt w bs s p l m n q b S) (hv : (S.gone || S.v.d) = true) :
    Calls Try.prog 15 #[.pointer (some ⟨s, 0, none⟩)] w fun e w' => e = .returned (.int .i64 50) ∧ Fr bs w w' ∧ StAt w' bs s p l m n q b { S with gone := true } := by
  obtain ⟨u, wv, ms, B, hl⟩ := h.lies
  refine (commit_dead w s p u l m n q wv S.all S.last S.gone b S.v hl.box h.dev hv).mono ?_
  rintro e w' ⟨rfl, hf, hb'⟩
  obtain ⟨h1, h2⟩ := h.rebox hl hf S.all S.last true hb' h.cnt
  exact ⟨rfl, h2, h1⟩
theorem st_read_dead (h : StAt w bs s p l m n q b S) (hv : (S.gone || S.v.d) = true) (i : Int) :
    Calls Try.prog 20 #[.pointer (some ⟨s, 0, none⟩), .int .i64 i] w fun e w' => e = .returned (.tuple #[.slice none 0 0, .int .i64 50]) ∧ Fr bs w w' ∧ StAt w' bs s p l m n q b { S with gone := true } := by
  obtain ⟨u, wv, ms, B, hl⟩ := h.lies
  refine (sread_dead w s p u l m n q wv S.all S.last S.gone b S.v hl.box h.dev hv i).mono ?_
  rintro e w' ⟨rfl, hf, hb'⟩
  obtain ⟨h1, h2⟩ := h.rebox hl hf S.all S.last true hb' h.cnt
  exact ⟨rfl, h2, h1⟩
theorem st_read_arg (h : StAt w bs s p l m n q b S) (hg : S.gone = false) (hv : S.v.d = false) (i : Int) (hi : (decide (0 ≤ i) && decide (i < roomI n)) = false) :
    Calls Try.prog 20 #[.pointer (some ⟨s, 0, none⟩), .int .i64 i] w fun e w' => e = .returned (.tuple #[.slice none 0 0, .int .i64 1]) ∧ Fr bs w w' ∧ StAt w' bs s p l m n q b S := by
  obtain ⟨u, wv, ms, B, hl⟩ := h.lies
  have hbx := hl.box
  rw [hg] at hbx
  refine (sread_arg w s p u l m n q wv S.all S.last b S.v hbx h.dev hv h.sep i hi).mono ?_
  rintro e w' ⟨rfl, hf, hb'⟩
  obtain ⟨h1, h2⟩ := h.rebox hl hf S.all S.last S.gone (by rw [hg]; exact hb') h.cnt
  exact ⟨rfl, h2, h1⟩
/-- As S, and the device was asked c times. -/
def Sv.asked (S : Sv) (c : Int) : Sv := { S with v := ⟨c, S.v.f, S.v.d, S.v.ls, S.v.wt⟩ }
theorem st_read (h : StAt w bs s p l m n q b S) (hg : S.gone = false) (hv : S.v.d = false) (i : Nat) (hi : i + 300 < n) (hb : b < 9000000000000000000) :
    Calls Try.prog 20 #[.pointer (some ⟨s, 0, none⟩), .int .i64 i] w fun e w' => ∃ x c, e = .returned (.tuple #[x, .int .i64 0]) ∧ Fr bs w w' ∧ StAt w' bs s p l m n q (b + 1) (S.asked c) ∧ Bytes64 w' w.heap.size x (S.tell i) := by
  obtain ⟨u, wv, ms, B, hl⟩ := h.lies
  have hbx := hl.box
  rw [hg] at hbx
  cases hU : S.U i with
  | some t =>
    refine (sread_under w s p u l m n q wv S.all S.last b S.v hbx h.dev hv h.sep S.U hl.und hl.usep.1 i hi t hU).mono ?_
    rintro e w' ⟨x, rfl, hf, hb', hx⟩
    obtain ⟨h1, h2⟩ := h.rebox hl hf S.all S.last S.gone (by rw [hg]; exact hb') h.cnt
    exact ⟨x, S.v.c, rfl, h2, h1.more (by omega), by unfold Sv.tell; rw [hU]; exact hx⟩
  | none =>
    refine (sread_below w s p u l m n q wv S.all S.last b S.v hbx h.dev hv h.sep S.U hl.und hl.usep.1 B ms S.Cs hl.len (by have := h.c16; have := hl.len; omega) hl.own (fun e => (hl.row e).1 rfl) (fun j hj => ⟨hl.wts j hj, (hl.msep _ (getD_mem hj)).1⟩) hb i hi hU).mono ?_
    rintro e w' ⟨x, c, rfl, hf, hb', hd, hx⟩
    have hsz := hf.size
    refine ⟨x, c, rfl, hf.mono (fun x hx => by simp at hx; rcases hx with rfl | rfl; exact hl.bs4.1; exact hl.bs4.2.1), ⟨⟨u, wv, ms, B, ⟨by simpa [Sv.asked, hg] using hb', hl.und.keep hf (by have := hl.usep; simp; omega), own_keepF hl.own hf (fun g hg => by have := hl.row hg; simp; exact ⟨this.1, this.2.1⟩), by have := hl.top; omega, hl.len, fun j hj => (hl.wts j hj).keep hf (by have := hl.msep _ (getD_mem hj); simp; exact ⟨this.1, this.2.1⟩), hl.usep, hl.msep, hl.bs4, hl.bsm, hl.bsr⟩⟩, hd, h.sep, h.card, h.k128, h.klen, h.cards, h.k1, h.room, h.c16, h.n300, h.cnt⟩, by unfold Sv.tell; rw [hU]; exact hx⟩
end
/-- A store as Open gives it. -/
def Sv.new (v : Dv) : Sv := ⟨v, fun _ => none, 0, [], [], 0, 0, false⟩
theorem st_open (w : World) (p l m n q : Nat) (b : Int) (v : Dv) (h : DvAt w p l m n q b v) (hb : b < 9000000000000000000) (hn : 300 < n) (hv : Calm v) :
    Calls Try.prog 19 #[.pointer (some ⟨p, 0, none⟩)] w fun e w' => ∃ s bs, e = .returned (.tuple #[.pointer (some ⟨s, 0, none⟩), .int .i64 0]) ∧ Fr [p] w w' ∧ w.heap.size ≤ s ∧ (∀ x ∈ bs, x = p ∨ x = l ∨ x = m ∨ w.heap.size ≤ x) ∧ StAt w' bs s p l m n q (b + 1) (Sv.new (v.read 0).2) := by
  have hlt := h.lts
  refine (open_calm w p l m n q b v h hb hn hv).mono ?_
  rintro e w' ⟨s, u, rfl, hs, hu, hsu, hbx, hm, hf, hd⟩
  have hsz := hf.size
  have hls := lt_of_heap hbx
  refine ⟨s, [s, p, l, m, u], rfl, hf, hs, fun x hx => by simp at hx; omega, ⟨⟨u, _, [], w'.heap.size, ⟨hbx, ⟨hm, fun i s h => by cases h⟩, World.ownsRow_nil _ _ _ _, by omega, rfl, fun j hj => absurd hj (by simp), by omega, by simp, by simp, by simp, fun g hg => by cases hg⟩⟩, hd, by omega, Card.empty, by simp [Sv.new], rfl, fun j hj => absurd hj (by simp [Sv.new]), by simp [Sv.new], by simp [Sv.new], by simp [Sv.new], hn, by simp [Sv.new]⟩⟩
end Go.Proofs.Ytoifpbifipgpkaa
