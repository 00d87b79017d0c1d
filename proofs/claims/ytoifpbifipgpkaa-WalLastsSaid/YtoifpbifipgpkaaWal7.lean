/-
  wal: Write of a store.
-/
import Derived.Test.YtoifpbifipgpkaaWal6
namespace Go.Proofs.Ytoifpbifipgpkaa
open Go.RowKit Go.MapKept
/-- How many sectors a change has. -/
def Card (U : Int → Option (List UInt8)) (k : Nat) : Prop := ∃ ks : List Int, ks.Nodup ∧ (∀ x, x ∈ ks ↔ ∃ s, U x = some s) ∧ ks.length = k
theorem Card.of {es : Array MapEntry} {clk : Nat} {U : Int → Option (List UInt8)} (h : Holds es clk (fun i => (U i).map secV)) : Card U es.size := by
  refine ⟨es.toList.map fun x => kI x.key, h.keysNodup, fun x => ⟨fun hx => ?_, fun ⟨s, hs⟩ => ?_⟩, by simp⟩
  · obtain ⟨e, he, rfl⟩ := List.mem_map.1 hx
    have h1 := h.to e he
    cases hw : U (kI e.key) with
    | none => simp [hw] at h1
    | some s => exact ⟨s, rfl⟩
  · obtain ⟨e, he, hk, _⟩ := h.from_ x (secV s) (by simp [hs])
    exact List.mem_map.2 ⟨e, he, hk⟩
theorem Card.one {U : Int → Option (List UInt8)} {j k : Nat} (h1 : Card U j) (h2 : Card U k) : j = k := by
  obtain ⟨a, ha, hma, rfl⟩ := h1
  obtain ⟨b, hb, hmb, rfl⟩ := h2
  have hp : a.Perm b := (List.perm_ext_iff_of_nodup ha hb).2 (fun x => by rw [hma, hmb])
  exact hp.length_eq
theorem Card.empty : Card (fun _ => none) 0 := ⟨[], List.nodup_nil, by simp, rfl⟩
theorem Card.old {U : Int → Option (List UInt8)} {k : Nat} (h : Card U k) {i : Int} {s t : List UInt8} (hi : U i = some t) : Card (wrote U i s) k := by
  obtain ⟨a, ha, hma, rfl⟩ := h
  refine ⟨a, ha, fun x => ?_, rfl⟩
  rw [hma]
  unfold wrote
  by_cases e : x = i
  · subst e; simp [hi]
  · simp [e]
theorem Card.new {U : Int → Option (List UInt8)} {k : Nat} (h : Card U k) {i : Int} {s : List UInt8} (hi : U i = none) : Card (wrote U i s) (k + 1) := by
  obtain ⟨a, ha, hma, rfl⟩ := h
  have hn : i ∉ a := fun hx => by obtain ⟨t, ht⟩ := (hma i).1 hx; rw [hi] at ht; cases ht
  refine ⟨i :: a, List.nodup_cons.2 ⟨hn, ha⟩, fun x => ?_, rfl⟩
  rw [List.mem_cons, hma]
  unfold wrote
  by_cases e : x = i
  · subst e; simp
  · simp [e]
set_option maxRecDepth 100000 in
set_option maxHeartbeats 2000000 in
theorem swrite_ok (w : World) (s p u l m n q : Nat) (wv : Value) (all last : Int) (b : Int) (v : Dv) (U : Int → Option (List UInt8)) (K : Nat) (hs : StoreBox w s p u wv all last false) (hd : DvAt w p l m n q b v) (hv : v.d = false) (hU : ChAt w u n U) (hK : Card U K)
    (hsu : s ≠ u) (hps : s ≠ p ∧ s ≠ l ∧ s ≠ m ∧ u ≠ p ∧ u ≠ l ∧ u ≠ m) (i : Int) (hi : 0 ≤ i ∧ i + 300 < n) (g o cap : Nat) (x : List UInt8) (hx : x.length = 64) (hr : w.rangeAt g o (cel x)) (hg : g ≠ s ∧ g ≠ u) (hroom : (U i).isSome = true ∨ K < 128) :
    Calls Try.prog 13 #[.pointer (some ⟨s, 0, none⟩), .int .i64 i, .slice (some ⟨g, o, none⟩) 64 cap] w fun e w' => e = .returned (.int .i64 0) ∧ Fr [s, u] w w' ∧ StoreBox w' s p u wv all last false ∧ ChAt w' u n (wrote U i x) := by
  have H1 := Lib.hid (died_calls w s p u wv all last false hs l m n q b v hd)
  rw [hv] at H1
  have hri : roomI n = (n : Int) - 300 := by unfold roomI; rw [if_neg (by omega)]
  have HX := Lib.hid hx; have HD := Lib.hid hd; have HU := Lib.hid hU; have HR := Lib.hid hr; have HK := Lib.hid hK
  have hlu := hU.map.lt
  clear hs hd hU hr hx hv hK
  go_enter Try.func13, Try.ntmps13
  go_wp2_with fail
  refine H1.out.mono ?_
  rintro e w1 ⟨rfl, hf1, hs1⟩
  have hd1 := HD.out.keep hf1 (by simp; omega) (by simp; omega) (by simp; omega)
  have hh := shas_calls w1 s p u wv all last false hs1 l m n q b v hd1 i
  rw [hri, show (decide (0 ≤ i) && decide (i < (n : Int) - 300)) = true by simp; omega] at hh
  have hU1 := HU.out.keep hf1 (by simp; omega)
  have hr1 : w1.rangeAt g o (cel x) := fun j y hy => by
    have := HR.out j y hy
    rw [World.cell?_of_block (w := w) (hf1.block g (World.block_lt_of_cell? _ _ this) (by simp; omega))]; exact this
  have HH := Lib.hid hh; have HS1 := Lib.hid hs1; have HU1 := Lib.hid hU1; have HR1 := Lib.hid hr1; have HF1 := Lib.hid hf1
  clear hd1 hh hs1 hU1 hr1 hf1 H1 HD HU HR
  go_wp2_with fail
  refine HH.out.mono ?_
  rintro e w2 ⟨rfl, rfl⟩
  clear HH
  have hc := box_cell HS1.out
  obtain ⟨es, clk, hb, hh⟩ := HU1.out.map
  have hes : es.size = K := (Card.of hh).one HK.out
  have hz64 : (cel zeros).length = 64 := by rw [cel_length]; rfl
  cases hUi : U i with
  | some t =>
    have ht := (HU1.out.dom i t hUi).2.2
    have htl : ((cel t).toArray).size = 64 := by simp [cel, ht]
    have hw3 : Fr [] w1 (w1.alloc (.cells (cel t).toArray 82)) := (Fr.refl [] w1).alloc _
    have hb3 : (w1.alloc (.cells (cel t).toArray 82)).heap[u]? = some (.map es clk) := hw3.keep hb (by simp)
    have hs3 : StoreBox (w1.alloc (.cells (cel t).toArray 82)) s p u wv all last false := hw3.keep HS1.out (by simp)
    have hc3 := box_cell hs3
    go_wp2_with (first
      | (at_lookup; refine wL_lookup rfl _ _ 85 rfl 3 82 Try.underlying85 Try.underlying3 _ Try.zeroWS2 u rfl i rfl _ HU1.out.map (some (secV t)) (by simp [hUi]) ?_)
      | (refine wL_allocW (o := ⟨some 7, .alloc 82, _, _, _, _⟩) rfl 82 rfl _ Try.zeroWS ?_)
      | (refine wL_storeNew (o := ⟨none, .store 82 _ _, _, _, _, _⟩) rfl 82 _ _ rfl _ _ rfl ?c0 _ rfl _ ?c1 ?c2 ?c3 ?_)
      | fail)
    case c0 => simp
    case c1 => rw [Try.sizeWS]; exact congrArg some htl.symm
    case c2 => rw [zcells_size]; exact htl.symm
    case c3 => exact all_oneCell_toArray (cel_one _)
    go_wp2_with fail
    generalize w1.alloc (.cells (cel t).toArray 82) = w3 at *
    have HS3 := Lib.hid hs3; have HF3 := Lib.hid hw3
    clear hb3 hs3 hw3 hc
    have hm4 : IMap w3.drew u (fun i => (U i).map secV) := (HU1.out.keep (HF3.out.drew) (by simp)).map
    have hr4 : w3.drew.rangeAt g o (cel x) := fun j y hy => by
      have := HR1.out j y hy
      rw [World.cell?_of_block (w := w1) (HF3.out.drew.block g (World.block_lt_of_cell? _ _ this) (by simp))]; exact this
    have HM4 := Lib.hid hm4; have HR4 := Lib.hid hr4
    clear hm4 hr4
    go_still_tail 8, (by kernel_rfl)
    change wpStill _ _ w3.drew _ _ _
    refine wpStill_array rfl _ _ rfl ⟨g, o, none⟩ 64 cap rfl 64 5 Try.underlying82 (Nat.le_refl _) ?_
    refine wpStill_loadMid rfl _ _ rfl g o rfl (cel x) HR4.out 64 5 Try.underlying82 (by rw [cel_length, HX.out]; exact Try.sizeWS) ?_
    refine wpStill_nil ?_
    refine wL_mapUpdate rfl _ _ _ _ rfl 3 82 Try.underlying85 Try.underlying3 u rfl i rfl (secV x) rfl _ HM4.out ?_
    intro w4 hf4 hmap
    have hfz : Fr [s, u] w w4 := ((HF1.out.mono (by simp)).trans ((HF3.out.drew).mono (by simp))).trans (hf4.mono (by simp))
    have hs4 : StoreBox w4 s p u wv all last false := hf4.keep (HF3.out.drew.keep HS1.out (by simp)) (by simpa using hsu)
    have hU4 : ChAt w4 u n (wrote U i x) := by
      refine ⟨?_, fun j t hj => ?_⟩
      · have e : (fun j => if j = i then some (secV x) else (fun j => (U j).map secV) j) = fun j => (wrote U i x j).map secV := by
          funext j
          unfold wrote
          by_cases hj : j = i <;> simp [hj]
        rw [← e]; exact hmap
      · unfold wrote at hj
        by_cases e : j = i
        · rw [if_pos e] at hj; cases hj; exact ⟨by omega, by omega, HX.out⟩
        · rw [if_neg e] at hj; exact HU1.out.dom j t hj
    have HFZ := Lib.hid hfz; have HS4 := Lib.hid hs4; have HU4 := Lib.hid hU4
    clear hf4 hmap hfz hs4 hU4
    go_wp2_with fail
    go_ret
    exact ⟨rfl, HFZ.out, HS4.out, HU4.out⟩
  | none =>
    have hKn : K < 128 := by rcases hroom with h | h; rw [hUi] at h; cases h; exact h
    have hne : ¬ ((es.size : Int) = 128) := by omega
    have hzl : ((cel zeros).toArray).size = 64 := by simp [cel]; rfl
    have hw3 : Fr [] w1 (w1.alloc (.cells (cel zeros).toArray 82)) := (Fr.refl [] w1).alloc _
    have hb3 : (w1.alloc (.cells (cel zeros).toArray 82)).heap[u]? = some (.map es clk) := hw3.keep hb (by simp)
    have hrl := fun ty => run_len_map (P := Try.prog) (w := w1.alloc (.cells (cel zeros).toArray 82)) 85 ty u es clk (by kernel_rfl) hb3
    have hs3 : StoreBox (w1.alloc (.cells (cel zeros).toArray 82)) s p u wv all last false := hw3.keep HS1.out (by simp)
    have hc3 := box_cell hs3
    go_wp2_with (first
      | (at_lookup; refine wL_lookup rfl _ _ 85 rfl 3 82 Try.underlying85 Try.underlying3 _ Try.zeroWS2 u rfl i rfl _ HU1.out.map (none) (by simp [hUi]) ?_)
      | (refine wL_allocW (o := ⟨some 7, .alloc 82, _, _, _, _⟩) rfl 82 rfl _ Try.zeroWS ?_)
      | (refine wL_storeNew (o := ⟨none, .store 82 _ _, _, _, _, _⟩) rfl 82 _ _ rfl _ _ rfl ?c0 _ rfl _ ?c1 ?c2 ?c3 ?_)
      | fail)
    case c0 => simp
    case c1 => rw [Try.sizeWS]; exact congrArg some hzl.symm
    case c2 => rw [zcells_size]; exact hzl.symm
    case c3 => exact all_oneCell_toArray (cel_one _)
    go_wp2_with fail
    generalize w1.alloc (.cells (cel zeros).toArray 82) = w3 at *
    have HS3 := Lib.hid hs3; have HF3 := Lib.hid hw3
    clear hb3 hs3 hw3 hc hrl
    have hm4 : IMap w3.drew u (fun i => (U i).map secV) := (HU1.out.keep (HF3.out.drew) (by simp)).map
    have hr4 : w3.drew.rangeAt g o (cel x) := fun j y hy => by
      have := HR1.out j y hy
      rw [World.cell?_of_block (w := w1) (HF3.out.drew.block g (World.block_lt_of_cell? _ _ this) (by simp))]; exact this
    have HM4 := Lib.hid hm4; have HR4 := Lib.hid hr4
    clear hm4 hr4
    go_still_tail 8, (by kernel_rfl)
    change wpStill _ _ w3.drew _ _ _
    refine wpStill_array rfl _ _ rfl ⟨g, o, none⟩ 64 cap rfl 64 5 Try.underlying82 (Nat.le_refl _) ?_
    refine wpStill_loadMid rfl _ _ rfl g o rfl (cel x) HR4.out 64 5 Try.underlying82 (by rw [cel_length, HX.out]; exact Try.sizeWS) ?_
    refine wpStill_nil ?_
    refine wL_mapUpdate rfl _ _ _ _ rfl 3 82 Try.underlying85 Try.underlying3 u rfl i rfl (secV x) rfl _ HM4.out ?_
    intro w4 hf4 hmap
    have hfz : Fr [s, u] w w4 := ((HF1.out.mono (by simp)).trans ((HF3.out.drew).mono (by simp))).trans (hf4.mono (by simp))
    have hs4 : StoreBox w4 s p u wv all last false := hf4.keep (HF3.out.drew.keep HS1.out (by simp)) (by simpa using hsu)
    have hU4 : ChAt w4 u n (wrote U i x) := by
      refine ⟨?_, fun j t hj => ?_⟩
      · have e : (fun j => if j = i then some (secV x) else (fun j => (U j).map secV) j) = fun j => (wrote U i x j).map secV := by
          funext j
          unfold wrote
          by_cases hj : j = i <;> simp [hj]
        rw [← e]; exact hmap
      · unfold wrote at hj
        by_cases e : j = i
        · rw [if_pos e] at hj; cases hj; exact ⟨by omega, by omega, HX.out⟩
        · rw [if_neg e] at hj; exact HU1.out.dom j t hj
    have HFZ := Lib.hid hfz; have HS4 := Lib.hid hs4; have HU4 := Lib.hid hU4
    clear hf4 hmap hfz hs4 hU4
    go_wp2_with fail
    go_ret
    exact ⟨rfl, HFZ.out, HS4.out, HU4.out⟩
end Go.Proofs.Ytoifpbifipgpkaa
