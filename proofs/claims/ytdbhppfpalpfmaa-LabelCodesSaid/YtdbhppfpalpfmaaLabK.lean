/-
  Join, Meet, without.
-/
import Derived.Test.YtdbhppfpalpfmaaLabJ
import Derived.Test.YtdbhppfpalpfmaaLabW
namespace Go.Proofs.Ytdbhppfpalpfmaa
open Go.RowKit Go.MapKept
theorem Fr.grew {w wr w' : World} {B : Nat} {T : TypeId} {z : Nat} {v : Value} {n : Nat} {xs : List Value} {tmp : Obj} (h : Fr [] w (wr.alloc tmp)) (hown : (wr.alloc tmp).ownsRow B T z v n xs) (hg : (wr.alloc tmp).grownBy w' v.ownBlock) (hB : w.heap.size ≤ B) : Fr [] w w' :=
  h.grown hg (fun k e => by
    rcases hown.2 with ⟨rfl, _⟩ | ⟨g, cap, cur, rfl, h1, _⟩
    · simp [Value.ownBlock] at e
    · simp [Value.ownBlock] at e; subst e; exact .inr (Nat.le_trans hB h1))
theorem ordered_calls (w : World) (ad : Option Addr) (cap : Nat) (zs : List Int) (h : RdI w ad cap zs) :
    Calls Try.prog 70 #[.slice ad zs.length cap] w fun e w' => ∃ ad' cap', e = .returned (.slice ad' (ord zs).length cap') ∧ RdI w' ad' cap' (ord zs) ∧ Fr [] w w' := by
  by_cases ha : asc zs
  · rw [ord_of ha]
    refine (ordered_asc w ad cap zs h ha).mono ?_
    rintro e w' ⟨rfl, q, rfl⟩
    have hq := (Fr.refl [] w).drewN q
    exact ⟨ad, cap, rfl, h.keep hq, hq⟩
  · have e : ord zs = srt zs := if_neg ha
    rw [e]
    exact ordered_not w ad cap zs h ha
theorem bs_calls (w : World) (ad : Option Addr) (cap : Nat) (zs : List Int) (x : Int) (h : RdI w ad cap zs) (ha : asc zs) :
    Calls Try.prog 73 #[.slice ad zs.length cap, .int .i64 x] w fun e w' => ∃ k : Int, e = .returned (.tuple #[.int .i64 k, .bool (zs.contains x)]) ∧ ∃ q, w' = w.drewN q := by
  by_cases hl : 0 < zs.length
  · cases ad with
    | none => have := h.nil rfl; omega
    | some a =>
      obtain ⟨b, off, rfl, hc⟩ := h.at_ a rfl hl
      have hb := h.big
      have := Try.slices_BinarySearch_int b off zs.length cap zs x w (Nat.le_refl _) (by omega) hc (by rw [List.take_length]; exact ha)
      rw [List.take_length] at this
      exact this.mono fun e w' ⟨he, hq⟩ => ⟨_, he, hq⟩
  · obtain rfl : zs = [] := List.eq_nil_of_length_eq_zero (by omega)
    refine (Try.slices_BinarySearch_int_empty ad cap x w).mono ?_
    rintro e w' ⟨rfl, rfl⟩
    exact ⟨0, rfl, 0, rfl⟩
theorem ord_contains (l : List Int) (x : Int) : (ord l).contains x = l.contains x := by
  rw [Bool.eq_iff_iff, List.contains_iff_mem, List.contains_iff_mem]; exact ord_mem l x
theorem lessB_snoc (l d : List Int) (k : Nat) (hk : k < l.length) : lessB (l.take (k + 1)) d = lessB (l.take k) d ++ (if d.contains (l.getD k 0) then [] else [l.getD k 0]) := by
  unfold lessB
  rw [List.take_succ_eq_append_getElem hk, List.filter_append]
  have e : l.getD k 0 = l[k] := by rw [List.getD_eq_getElem?_getD, List.getElem?_eq_getElem hk]; rfl
  rw [e]
  congr 1
  by_cases h : d.contains l[k]
  · rw [if_pos h]; simp [List.filter_cons] at *; exact h
  · rw [if_neg h]; simp [List.filter_cons] at *; exact h
theorem lessB_len (l d : List Int) (k : Nat) : (lessB (l.take k) d).length ≤ k := Nat.le_trans (List.length_filter_le _ _) (List.length_take_le _ _)
set_option maxRecDepth 100000 in
set_option maxHeartbeats 2000000 in
theorem without_calls (w : World) (a1 a2 : Option Addr) (c1 c2 : Nat) (l d : List Int) (hr1 : RdI w a1 c1 l) (hr2 : RdI w a2 c2 d) :
    Calls Try.prog 60 #[.slice a1 l.length c1, .slice a2 d.length c2] w fun e w' => ∃ ad cap, e = .returned (.slice ad (lessB l d).length cap) ∧ RdI w' ad cap (lessB l d) ∧ Fr [] w w' := by
  obtain ⟨i0, hi, hz0, hz1, hz2⟩ := info_parts (show (Try.prog.info? 3).map (fun i => (i.zero, i.size, i.bytes)) = some (some (.int .i64 0), 1, 8) by kernel_rfl)
  have hord := ordered_calls w a2 c2 d hr2
  have hbig := hr1.big
  have hsn := lessB_snoc l d
  have hlen := lessB_len l d
  have hend : lessB (l.take l.length) d = lessB l d := by rw [List.take_length]
  have hoc := ord_contains d
  have hasc := ord_asc d
  have HI := Lib.hid hi; have HZ0 := Lib.hid hz0; have HZ1 := Lib.hid hz1; have HZ2 := Lib.hid hz2
  have HR1 := Lib.hid hr1; have HSN := Lib.hid hsn; have HLEN := Lib.hid hlen; have HEND := Lib.hid hend; have HOC := Lib.hid hoc; have HASC := Lib.hid hasc
  clear hi hz0 hz1 hz2 hr1 hr2 hsn hlen hend hoc hasc
  obtain ⟨n1, hn1⟩ : ∃ n, l.length = n := ⟨_, rfl⟩
  obtain ⟨n2, hn2⟩ : ∃ n, d.length = n := ⟨_, rfl⟩
  rw [hn1] at hbig ⊢
  rw [hn2] at hord ⊢
  have HN1 := Lib.hid hn1; have HN2 := Lib.hid hn2
  clear hn1 hn2
  go_enter Try.func60, Try.ntmps60
  go_wp2_with fail
  refine hord.mono ?_
  rintro e w1 ⟨ad', cap', rfl, hr, hf⟩
  have hbig2 := hr.big
  obtain ⟨n3, hn3⟩ : ∃ n, (ord d).length = n := ⟨_, rfl⟩
  rw [hn3] at hbig2 ⊢
  have HN3 := Lib.hid hn3
  have HR := Lib.hid hr; have HF := Lib.hid hf
  clear hord hr hf hn3
  go_wp2_with fail
  have hw1 := HF.out.size
  go_loopw [5, 14] (fun v5 v14 wr => ∃ (k : Nat) (v : Value), k ≤ n1 ∧ v14 = .int .i64 k ∧ v = v5 ∧ wr.ownsRow w1.heap.size 3 1 v (lessB (l.take k) d).length ((lessB (l.take k) d).map (Value.int .i64)) ∧ Fr [] w1 wr) (fun _ v14 _ => n1 - (intOf v14).toNat)
  case atStart => exact ⟨0, _, by omega, rfl, rfl, by simpa [lessB] using World.ownsRow_nil _ _ _ _, Fr.refl _ _⟩
  case round =>
    obtain ⟨k, v5, hk, rfl, rfl, hown, hfr⟩ := hrel
    by_cases hlt : k < n1
    · have hr1 := HR1.out.keep (HF.out.trans hfr)
      have hlk : 0 < l.length := by rw [HN1.out]; omega
      obtain ⟨b, off, rfl, hc⟩ : ∃ b off, a1 = some ⟨b, off, none⟩ ∧ ∀ j, j < l.length → wr.cell? ⟨b, off + j, none⟩ = some (.int .i64 (l.getD j 0)) := by
        cases a1 with
        | none => have := hr1.nil rfl; omega
        | some a => obtain ⟨b, off, rfl, hc⟩ := hr1.at_ a rfl hlk; exact ⟨b, off, rfl, hc⟩
      have hcell := hc k (by rw [HN1.out]; exact hlt)
      have hsn := HSN.out k (by rw [HN1.out]; exact hlt)
      have hln := HLEN.out k
      have hbs := bs_calls wr ad' cap' (ord d) (l.getD k 0) (HR.out.keep hfr) HASC.out
      rw [HOC.out, HN3.out] at hbs
      obtain ⟨x, hx⟩ : ∃ x, l.getD k 0 = x := ⟨_, rfl⟩
      rw [hx] at hcell hsn hbs
      clear hx hc hr1 hlk
      generalize lessB (l.take k) d = ls at *
      have hsz := hfr.size
      by_cases hm : d.contains x = true
      · rw [hm] at hbs hsn
        have hsn' : lessB (l.take (k + 1)) d = ls := by rw [hsn]; simp
        have HS := Lib.hid hsn'; have HBS := Lib.hid hbs; have HOW := Lib.hid hown; have HFR := Lib.hid hfr
        clear hsn hsn' hbs hown hm hfr
        go_wp2_with fail
        refine HBS.out.mono ?_
        rintro e w3 ⟨j, rfl, q, hw3⟩
        have hq : Fr [] wr w3 := by rw [hw3]; exact (Fr.refl [] wr).drewN q
        have ho3 : w3.ownsRow w1.heap.size 3 1 v5 ls.length (ls.map (Value.int .i64)) := by rw [hw3]; exact HOW.out
        have HO3 := Lib.hid ho3; have HQ := Lib.hid hq
        clear hw3 hq ho3
        go_wp2_with fail
        go_roundw
        case rel => exact ⟨k + 1, _, by omega, by go_num, rfl, by rw [HS.out]; exact HO3.out, HFR.out.trans HQ.out⟩
        case measure => simp [intOf]; omega
      · have hm' : d.contains x = false := by simpa using hm
        rw [hm'] at hbs hsn
        have hsn' : lessB (l.take (k + 1)) d = ls ++ [x] := by rw [hsn]; simp
        have HS := Lib.hid hsn'; have HBS := Lib.hid hbs; have HOW := Lib.hid hown; have HFR := Lib.hid hfr
        clear hsn hsn' hbs hown hm hm' hfr
        go_wp2_with fail
        refine HBS.out.mono ?_
        rintro e w3 ⟨j, rfl, q, hw3⟩
        have hq : Fr [] wr w3 := by rw [hw3]; exact (Fr.refl [] wr).drewN q
        have ho3 : w3.ownsRow w1.heap.size 3 1 v5 ls.length (ls.map (Value.int .i64)) := by rw [hw3]; exact HOW.out
        have hs3 := hq.size
        have HO3 := Lib.hid ho3; have HQ := Lib.hid hq
        clear hw3 hq ho3
        go_wp2_with (first
          | (at_builtin; refine wpList_append_own _ rfl _ _ 22 rfl w1.heap.size 3 i0 (.int .i64 0) 1 8 Try.underlying22 HI.out HZ0.out HZ1.out HZ2.out rfl (by decide) _ _ _ rfl (HO3.out.alloc _) ⟨w3.heap.size, 0, none⟩ 1 1 [.int .i64 x] rfl rfl (cell_one_new _ _ _) (by simp [Value.oneCell']) (by unfold maxLen; omega) (by omega) (by simp; omega) ?_)
          | fail)
        intro v' w4 hown' hgrow _
        have hfa := ((HFR.out.trans HQ.out).alloc (.cells #[.int .i64 x] 3)).grew (HO3.out.alloc _) hgrow (Nat.le_refl _)
        have HFA := Lib.hid hfa; have HOA := Lib.hid hown'
        clear hfa hown' hgrow
        go_wp2_with fail
        go_roundw
        case rel => exact ⟨k + 1, _, by omega, by go_num, rfl, by rw [HS.out]; simpa using HOA.out, HFA.out⟩
        case measure => simp [intOf]; omega
    · obtain rfl : k = n1 := by omega
      rw [show l.take k = l from List.take_of_length_le (by rw [HN1.out]; exact Nat.le_refl _)] at hown
      have hle : (lessB l d).length * 8 ≤ 140737488355328 := by have := HLEN.out l.length; rw [List.take_length, HN1.out] at this; omega
      obtain ⟨ad, cap, rfl, hr, _⟩ := own_rdI hown hle
      have HRR := Lib.hid hr; have HFR := Lib.hid (HF.out.trans hfr)
      clear hown hr hfr hle
      go_wp2_with fail
      go_ret
      exact ⟨ad, cap, rfl, HRR.out, HFR.out⟩
end Go.Proofs.Ytdbhppfpalpfmaa
