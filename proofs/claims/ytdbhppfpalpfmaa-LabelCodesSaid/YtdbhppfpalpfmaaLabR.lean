/-
  A list in order, as the code asks for it: itself where it is in order, else a sorted copy.
-/
import Derived.Test.YtdbhppfpalpfmaaLabV
namespace Go.Proofs.Ytdbhppfpalpfmaa
open Go.RowKit Go.Shelf
theorem asc_adj {l : List Int} : asc l ↔ ∀ i, i + 1 < l.length → l.getD i 0 ≤ l.getD (i + 1) 0 := by
  constructor
  · intro h i hi
    have := List.pairwise_iff_getElem.1 h i (i + 1) (by omega) hi (by omega)
    rw [List.getD_eq_getElem?_getD, List.getD_eq_getElem?_getD, List.getElem?_eq_getElem hi, List.getElem?_eq_getElem (by omega)]
    simpa using this
  · intro h
    refine List.pairwise_iff_getElem.2 ?_
    have key : ∀ d i (hi : i < l.length) (hj : i + d < l.length), l[i] ≤ l[i + d] := by
      intro d
      induction d with
      | zero => intro i hi hj; exact Int.le_refl _
      | succ d ih =>
        intro i hi hj
        have h1 := ih i hi (by omega)
        have h2 := h (i + d) (by omega)
        rw [List.getD_eq_getElem?_getD, List.getD_eq_getElem?_getD, List.getElem?_eq_getElem (show i + d < l.length by omega), List.getElem?_eq_getElem (show i + d + 1 < l.length by omega)] at h2
        simp only [Option.getD_some] at h2
        have e : l[i + (d + 1)] = l[i + d + 1] := rfl
        rw [e]; omega
    intro i j hi hj hij
    have := key (j - i) i hi (by omega)
    simpa [show i + (j - i) = j by omega] using this
theorem downOK_asc (zs : List Int) : Lib.downOK (fun x y => decide (x < y)) zs.toArray (zs.toArray.size - 1) = decide (asc zs) := by
  rw [Bool.eq_iff_iff, Lib.downOK_iff, decide_eq_true_iff, asc_adj]
  constructor
  · intro h i hi
    have := h i (by simp; omega)
    have h1 : zs.toArray[i + 1]! = zs.getD (i + 1) 0 := by simp [hi]
    have h2 : zs.toArray[i]! = zs.getD i 0 := by simp [show i < zs.length by omega]
    rw [h1, h2] at this
    simp at this
    simpa using this
  · intro h i hi
    have hi' : i + 1 < zs.length := by simp at hi; omega
    have := h i hi'
    have h1 : zs.toArray[i + 1]! = zs.getD (i + 1) 0 := by simp [hi']
    have h2 : zs.toArray[i]! = zs.getD i 0 := by simp [show i < zs.length by omega]
    rw [h1, h2]
    simp; simpa using this
theorem isSorted_calls (w : World) (ad : Option Addr) (cap : Nat) (zs : List Int) (h : RdI w ad cap zs) :
    Calls Try.prog 78 #[.slice ad zs.length cap] w fun e w' => e = .returned (.bool (decide (asc zs))) ∧ ∃ q, w' = w.drewN q := by
  by_cases hl : 0 < zs.length
  · cases ad with
    | none => have := h.nil rfl; omega
    | some a =>
      obtain ⟨b, off, rfl, hc⟩ := h.at_ a rfl hl
      have hb := h.big
      have := AnyO.slices_IsSorted_int Try.issA b off cap zs.toArray w (fun i hi => by
        have hi' : i < zs.length := by simpa using hi
        rw [hc i hi']; simp [hi']) (by simp; omega)
      rw [downOK_asc] at this
      simp only [List.size_toArray] at this
      exact this
  · obtain rfl : zs = [] := List.eq_nil_of_length_eq_zero (by omega)
    refine (AnyO.slices_IsSorted_int_none Try.issA ad cap w).mono ?_
    rintro e w' ⟨rfl, rfl⟩
    exact ⟨by simp [asc], 0, rfl⟩
set_option maxHeartbeats 400000 in
/-- A list in order is itself. -/
theorem ordered_asc (w : World) (ad : Option Addr) (cap : Nat) (zs : List Int) (h : RdI w ad cap zs) (ha : asc zs) :
    Calls Try.prog 70 #[.slice ad zs.length cap] w fun e w' => e = .returned (.slice ad zs.length cap) ∧ ∃ q, w' = w.drewN q := by
  have hs := isSorted_calls w ad cap zs h
  rw [decide_eq_true ha] at hs
  clear ha h
  go_enter Try.func70, Try.ntmps70
  go_wp2_with fail
  refine hs.mono ?_
  rintro e w' ⟨rfl, q, rfl⟩
  go_wp2_with fail
  go_ret
  exact ⟨rfl, q, rfl⟩
theorem own_rdI {w : World} {B : Nat} {T : TypeId} {v : Value} {n : Nat} {zs : List Int} (h : w.ownsRow B T 1 v n (zs.map (Value.int .i64))) (hb : zs.length * 8 ≤ 140737488355328) : ∃ ad cap, v = .slice ad zs.length cap ∧ RdI w ad cap zs ∧ (∀ b off, ad = some ⟨b, off, none⟩ → 0 < zs.length → B ≤ b) := by
  have hl : zs.length = n := by have := h.1; simp at this; omega
  rcases h.2 with ⟨rfl, hz⟩ | ⟨g, cap, cur, rfl, hB, hg, h1, h2, h3, h4⟩
  · obtain rfl : zs = [] := List.eq_nil_of_length_eq_zero (by omega)
    exact ⟨none, 0, rfl, RdI.empty _ _ (by omega), fun b off e => by cases e⟩
  · refine ⟨_, cap, by rw [hl], ⟨by omega, by unfold maxLen at h2; omega, hb, (fun e => by cases e), fun a ha _ => ?_⟩, (fun b off e _ => by cases e; exact hB)⟩
    cases ha
    refine ⟨g, 0, rfl, fun j hj => ?_⟩
    rw [Nat.zero_add, box_cell hg]
    have : (cur.toList.take (n * 1))[j]? = (zs.map (Value.int .i64))[j]? := by rw [h4]
    rw [List.getElem?_take, if_pos (by omega)] at this
    rw [← Array.getElem?_toList, this]
    simp [hj]
set_option maxHeartbeats 400000 in
theorem values_calls (w : World) (ad : Option Addr) (n cap : Nat) :
    Calls Try.prog 47 #[.slice ad n cap] w fun e w' => e = .returned (.func (.func 68) #[] #[.pointer (some ⟨w.heap.size, 0, none⟩)]) ∧ w' = w.alloc (.cells #[.slice ad n cap] 22) := by
  go_enter Try.func47, Try.ntmps47
  go_wp2
  go_ret
  exact ⟨rfl, rfl⟩
theorem Fr.of_below {w w' : World} (h : Below w.heap.size w w') : Fr [] w w' := ⟨h.os, h.tape, h.output, h.size, fun k hk _ => h.block k hk⟩
set_option maxHeartbeats 1000000 in
theorem ordered_not (w : World) (ad : Option Addr) (cap : Nat) (zs : List Int) (h : RdI w ad cap zs) (ha : ¬ asc zs) :
    Calls Try.prog 70 #[.slice ad zs.length cap] w fun e w' => ∃ ad' cap', e = .returned (.slice ad' (srt zs).length cap') ∧ RdI w' ad' cap' (srt zs) ∧ Fr [] w w' := by
  have hs := isSorted_calls w ad cap zs h
  rw [decide_eq_false ha] at hs
  have hbig := h.big
  have hf1 : ∀ q, Fr [] w (w.drewN q) := fun q => (Fr.refl [] w).drewN q
  have hf2 : ∀ q, Fr [] w ((w.drewN q).alloc (.cells #[.slice ad zs.length cap] 22)) := fun q => (hf1 q).alloc _
  have hso : ∀ q, Calls Try.prog 46 #[.func (.func 68) #[] #[.pointer (some ⟨(w.drewN q).heap.size, 0, none⟩)]] ((w.drewN q).alloc (.cells #[.slice ad zs.length cap] 22)) _ :=
    fun q => sorted_calls (w.drewN q).heap.size (.slice ad zs.length cap) zs _ (by simp) (Boxed.new _ _ _).cell ((h.keep (hf2 q)).intsB)
  have HSO := Lib.hid hso; have HF2 := Lib.hid hf2
  clear ha h hso hf1 hf2
  go_enter Try.func70, Try.ntmps70
  go_wp2_with fail
  refine hs.mono ?_
  rintro e w' ⟨rfl, q, rfl⟩
  clear hs
  have hso := HSO.out q
  have hf2 := HF2.out q
  clear HSO HF2
  go_wp2_with fail
  refine (values_calls _ ad zs.length cap).mono ?_
  rintro e w' ⟨rfl, rfl⟩
  go_wp2_with fail
  refine hso.mono ?_
  rintro e w' ⟨v, rfl, hrow, hb⟩
  obtain ⟨ad', cap', rfl, hr, _⟩ := own_rdI hrow (by rw [srt_len]; exact hbig)
  have HR := Lib.hid hr; have HF := Lib.hid (hf2.trans (Fr.of_below hb))
  clear hrow hr hb hso hf2
  go_wp2_with fail
  go_ret
  exact ⟨ad', cap', rfl, HR.out, HF.out⟩
end Go.Proofs.Ytdbhppfpalpfmaa
