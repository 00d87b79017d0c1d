/-
  wal: the log is written.
-/
import Derived.Test.YtoifpbifipgpkaaWal15
namespace Go.Proofs.Ytoifpbifipgpkaa
open Go.RowKit Go.MapKept Go.Shelf
attribute [local go_sem] Oper.semAt_some
/-- The first places. -/
def places (K : Nat) : List Int := (List.range K).map fun i : Nat => (i : Int)
theorem places_len (K : Nat) : (places K).length = K := by simp [places]
theorem places_get {K k : Nat} (h : k < K) : (places K).getD k 0 = k := by simp [places, h]
theorem places_take {K k : Nat} (h : k ≤ K) : (places K).take k = places k := by
  unfold places
  rw [← List.map_take, List.take_range, Nat.min_eq_left h]
/-- The log of a change: the sectors, their numbers, a flush. -/
def Dv.log (v : Dv) (C : Int → Option (List UInt8)) (ks : List Int) : Int × Dv :=
  if (v.puts (fun i => txt C (ks.getD i.toNat 0)) 9 (places ks.length)).1 = 0 then
    (if ((v.puts (fun i => txt C (ks.getD i.toNat 0)) 9 (places ks.length)).2.puts (fun i => asK (pieceL ks i.toNat) (pieceL ks i.toNat).length) 1 (places ((ks.length + 31) / 32))).1 = 0 then
      ((v.puts (fun i => txt C (ks.getD i.toNat 0)) 9 (places ks.length)).2.puts (fun i => asK (pieceL ks i.toNat) (pieceL ks i.toNat).length) 1 (places ((ks.length + 31) / 32))).2.flush
    else (v.puts (fun i => txt C (ks.getD i.toNat 0)) 9 (places ks.length)).2.puts (fun i => asK (pieceL ks i.toNat) (pieceL ks i.toNat).length) 1 (places ((ks.length + 31) / 32)))
  else v.puts (fun i => txt C (ks.getD i.toNat 0)) 9 (places ks.length)
theorem KeysOf.len {C : Int → Option (List UInt8)} {ks : List Int} {k : Nat} (h : KeysOf C ks) (hc : Card C k) : ks.length = k := (Card.one ⟨ks, h.nd, h.mem, rfl⟩ hc)
theorem Dv.puts_congr {f g : Int → List UInt8} (o : Int) : ∀ (is : List Int) (v : Dv), (∀ i ∈ is, f i = g i) → v.puts f o is = v.puts g o is
  | [], _, _ => rfl
  | i :: is, v, h => by
    simp only [Dv.puts]
    rw [h i (by simp)]
    split
    · exact Dv.puts_congr o is _ (fun j hj => h j (by simp [hj]))
    · rfl
theorem places_succ (k : Nat) : places (k + 1) = places k ++ [(k : Int)] := by simp [places, List.range_succ]
theorem places_mem {k : Nat} {i : Int} (h : i ∈ places k) : ∃ j : Nat, j < k ∧ i = j := by
  simp only [places, List.mem_map, List.mem_range] at h
  obtain ⟨j, hj, rfl⟩ := h
  exact ⟨j, hj, rfl⟩
/-- The numbers' sector of the piece that is told at a place. -/
def fP (ks : List Int) (pre : List Nat) (i : Int) : List UInt8 := asK (pieceL ks (pre.getD i.toNat 0)) (pieceL ks (pre.getD i.toNat 0)).length
theorem fP_step {v vj : Dv} {ks : List Int} {pre : List Nat} (h : v.puts (fP ks pre) 1 (places pre.length) = (0, vj)) (x : Nat) :
    v.puts (fP ks (pre ++ [x])) 1 (places (pre.length + 1)) = vj.write (((1 + pre.length : Nat)) : Int) (asK (pieceL ks x) (pieceL ks x).length) := by
  rw [places_succ, Dv.puts_append]
  have hc : v.puts (fP ks (pre ++ [x])) 1 (places pre.length) = (0, vj) := by
    rw [← h]
    refine Dv.puts_congr 1 _ v (fun i hi => ?_)
    obtain ⟨j, hj, rfl⟩ := places_mem hi
    unfold fP
    simp only [Int.toNat_natCast]
    rw [show (pre ++ [x]).getD j 0 = pre.getD j 0 by simp [List.getD_eq_getElem?_getD, List.getElem?_append_left hj]]
  rw [hc]
  simp only [if_true, Dv.puts]
  have e : fP ks (pre ++ [x]) (pre.length : Int) = asK (pieceL ks x) (pieceL ks x).length := by unfold fP; simp
  have e2 : (1 : Int) + (pre.length : Int) = ((1 + pre.length : Nat) : Int) := by omega
  rw [e, e2]
  generalize vj.write _ _ = r
  obtain ⟨c, v'⟩ := r
  simp only
  split
  · rename_i hz; rw [hz]
  · rfl
theorem fP_range (ks : List Int) (K k : Nat) (hk : k ≤ K) : ∀ i ∈ places k, fP ks (List.range K) i = asK (pieceL ks i.toNat) (pieceL ks i.toNat).length := by
  intro i hi
  obtain ⟨j, hj, rfl⟩ := places_mem hi
  unfold fP
  simp [show j < K by omega]
theorem fP_stop {v vj : Dv} {ks : List Int} {C k : Nat} {code : Int} (hk : k ≤ C) (h : v.puts (fP ks (List.range k)) 1 (places k) = (code, vj)) (hc : code ≠ 0) :
    v.puts (fun i => asK (pieceL ks i.toNat) (pieceL ks i.toNat).length) 1 (places C) = (code, vj) := by
  rw [Dv.puts_congr 1 _ v (fP_range ks k k (Nat.le_refl _))] at h
  have e : places C = places k ++ (places C).drop k := by rw [← places_take hk, List.take_append_drop]
  rw [e, Dv.puts_append, h]
  simp only [hc, ↓reduceIte]
set_option maxRecDepth 100000 in
set_option maxHeartbeats 4000000 in
theorem writeLog_calls (w : World) (p l m n q : Nat) (b : Int) (v : Dv) (h : DvAt w p l m n q b v) (hb : b < 8999999999999000000) (mc : Nat) (C : Int → Option (List UInt8)) (hC : ChAt w mc n C) (hmc : mc ≠ p ∧ mc ≠ l ∧ mc ≠ m) (hn : 300 < n) (K : Nat) (hcard : Card C K) (hK : K ≤ 256) :
    Calls Try.prog 59 #[.pointer (some ⟨p, 0, none⟩), .map (some mc)] w fun e w' => ∃ ks, KeysOf C ks ∧ e = .returned (.int .i64 (v.log C ks).1) ∧ Fr [p, l, m] w w' ∧ DvAt w' p l m n q (b + 300) (v.log C ks).2 := by
  have hnb := h.at_.nb
  have hlt := h.lts
  have hcl := hC.map.lt
  have hFa : Fr [] w ((w.alloc (.cells #[.pointer (some ⟨p, 0, none⟩)] 23)).alloc (.cells #[.int .i64 0] 27)) := ((Fr.refl [] w).alloc _).alloc _
  have hb1 : ((w.alloc (.cells #[.pointer (some ⟨p, 0, none⟩)] 23)).alloc (.cells #[.int .i64 0] 27)).heap[w.heap.size]? = some (.cells #[.pointer (some ⟨p, 0, none⟩)] 23 (0, 0)) := ((Fr.refl [] _).alloc _).keep (heap_alloc_new w _) (by simp)
  have hb2 : ((w.alloc (.cells #[.pointer (some ⟨p, 0, none⟩)] 23)).alloc (.cells #[.int .i64 0] 27)).heap[w.heap.size + 1]? = some (.cells #[.int .i64 0] 27 (0, 0)) := by
    have := heap_alloc_new (w.alloc (.cells #[.pointer (some ⟨p, 0, none⟩)] 23)) (.cells #[.int .i64 0] 27)
    rwa [show (w.alloc (.cells #[.pointer (some ⟨p, 0, none⟩)] 23)).heap.size = w.heap.size + 1 by simp] at this
  have hsa : ((w.alloc (.cells #[.pointer (some ⟨p, 0, none⟩)] 23)).alloc (.cells #[.int .i64 0] 27)).heap.size = w.heap.size + 2 := by simp
  have hCa := hC.keep hFa (by simp)
  have hDa := h.keep hFa (by simp) (by simp) (by simp)
  obtain ⟨wa, hwa⟩ : ∃ wa, (w.alloc (.cells #[.pointer (some ⟨p, 0, none⟩)] 23)).alloc (.cells #[.int .i64 0] 27) = wa := ⟨_, rfl⟩
  have HWA := Lib.hid hwa
  rw [hwa] at hFa hb1 hb2 hsa hCa hDa
  have HI := Lib.hid (inOrder_calls wa mc n C hCa.map (fun i s hs => by have := hCa.dom i s hs; omega) hnb)
  have HC := Lib.hid hCa; have HD := Lib.hid hDa; have HFA := Lib.hid hFa; have HB1 := Lib.hid hb1; have HB2 := Lib.hid hb2; have HCARD := Lib.hid hcard
  clear hC h hwa hCa hDa hFa hb1 hb2 hcard
  refine (callsIn_wide (n := 6)).1 ?_
  refine callsIn_of_wp_marks Try.func59 rfl trivial ?_ rfl
  simp only [Try.ntmps59, List.size_toArray, List.length_cons, List.length_nil, Nat.reduceAdd, Nat.reduceSub, Array.replicate_succ, Array.replicate_zero, List.push_toArray, List.append_toArray, List.nil_append, List.cons_append]
  refine wpIn_wide.2 ?_
  go_wp2_with fail
  rw [HWA.out]
  go_wp2_with fail
  refine HI.out.mono ?_
  rintro e w1 ⟨vx, ks, rfl, hmem, hnd, hup, hown, _, hf1⟩
  have hK0 : KeysOf C ks := ⟨hmem, hnd, hup⟩
  have hkl := hK0.len HCARD.out
  have hkin : ∀ x ∈ ks, ∃ s, C x = some s ∧ 0 ≤ x ∧ x + 300 < n ∧ s.length = 64 := fun x hx => by
    obtain ⟨s, hs⟩ := (hmem x).1 hx
    exact ⟨s, hs, HC.out.dom x s hs⟩
  have hsz1 := hf1.size
  have hri : ∃ g a cap, vx = .slice a K cap ∧ (0 < K → a = some ⟨g, 0, none⟩) ∧ K ≤ cap ∧ (0 < K → wa.heap.size ≤ g ∧ g < w1.heap.size) ∧ ∀ j, j < K → w1.cell? ⟨g, j, none⟩ = some (.int .i64 (ks.getD j 0)) := by
    rcases hown.2 with ⟨rfl, h0⟩ | ⟨g, cap, cur, rfl, h4, h5, h6, h7, h8, h9⟩
    · exact ⟨0, none, 0, by rw [show K = 0 by omega], fun h => by omega, by omega, fun h => by omega, fun j hj => by omega⟩
    · refine ⟨g, _, cap, by rw [hkl], fun _ => rfl, by omega, fun _ => ⟨h4, lt_of_heap h5⟩, fun j hj => ?_⟩
      rw [box_cell h5]
      have : (cur.toList.take (ks.length * 1))[j]? = some (.int .i64 (ks.getD j 0)) := by rw [h9]; simp [show j < ks.length by omega]
      rw [List.getElem?_take] at this
      split at this
      · simpa using this
      · cases this
  obtain ⟨g, ax, cx, rfl, hax, hcx, hgx, hcell1⟩ := hri
  have hC1 := HC.out.keep hf1 (by simp)
  have hD1 := HD.out.keep hf1 (by simp) (by simp) (by simp)
  have hB1 := hf1.keep HB1.out (by simp)
  have hB2 := hf1.keep HB2.out (by simp)
  have HF1 := Lib.hid (HFA.out.trans hf1); have HCELL := Lib.hid hcell1; have HK0 := Lib.hid hK0; have HKI := Lib.hid hkin; have HKL := Lib.hid hkl
  have HC1 := Lib.hid hC1; have HD1 := Lib.hid hD1; have HB11 := Lib.hid hB1; have HB21 := Lib.hid hB2
  have HAX := Lib.hid hax; have HGX := Lib.hid hgx
  clear hC1 hD1 hB1 hB2 hf1 hcell1 hK0 hkin hkl hmem hnd hup hown HC HD HI HB1 HB2 HFA HCARD hax hgx
  go_wp2_with fail
  go_loopw [16] (fun v16 wr => ∃ (k : Nat) (vk : Dv), k ≤ K ∧ v16 = .int .i64 k ∧ v.puts (fun i => txt C (ks.getD i.toNat 0)) 9 (places k) = (0, vk) ∧ DvAt wr p l m n q (b + k) vk ∧ Fr [p, l, m] w1 wr) (fun v16 _ => K - (intOf v16).toNat)
  case atStart => exact ⟨0, v, by omega, rfl, by simp [places, Dv.puts], HD1.out.more (by omega), Fr.refl _ _⟩
  case round =>
    clear HD1
    rename World => wr
    obtain ⟨k, vk, hk, rfl, hp, hd, hf⟩ := hrel
    have hsr := hf.size
    have hbr1 := hf.keep HB11.out (by simp; omega)
    have hbr2 := hf.keep HB21.out (by simp; omega)
    by_cases hlk : k < K
    · have hlk' : (k : Int) < (K : Int) := by omega
      obtain rfl := HAX.out (by omega)
      have hgk := HGX.out (by omega)
      have hcell : wr.cell? ⟨g, k, none⟩ = some (.int .i64 (ks.getD k 0)) := by
        rw [World.cell?_of_block (w := w1) (hf.block g (by omega) (by simp; omega))]; exact HCELL.out k hlk
      have hgm : ks.getD k 0 ∈ ks := by
        have hkl := HKL.out
        have e : ks.getD k 0 = ks[k] := by simp [show k < ks.length by omega]
        rw [e]; exact List.getElem_mem _
      obtain ⟨s, hs, h0, h1, h64⟩ := HKI.out (ks.getD k 0) hgm
      have hpt : v.puts (fun i => txt C (ks.getD i.toNat 0)) 9 ((places K).take k) = (0, vk) := by rw [places_take (by omega)]; exact hp
      have hok := fun hr => Dv.puts_ok (f := fun i => txt C (ks.getD i.toNat 0)) (o := 9) hpt (by rw [places_len]; exact hlk) hr
      have hbad := fun hr => Dv.puts_bad (f := fun i => txt C (ks.getD i.toNat 0)) (o := 9) hpt (by rw [places_len]; exact hlk) hr
      rw [places_get hlk, places_take (by omega)] at hok
      rw [places_get hlk] at hbad
      simp only [Int.toNat_natCast] at hok hbad
      have ht : txt C (ks.getD k 0) = s := by unfold txt; rw [hs]; rfl
      obtain ⟨i, hi⟩ : ∃ i, ks.getD k 0 = i := ⟨_, rfl⟩
      rw [hi] at hcell hs h0 h1 hok hbad ht
      rw [ht] at hok hbad
      have hj : (9 : Int) + (k : Int) = ((9 + k : Nat) : Int) := by omega
      rw [hj] at hok hbad
      have hW := wwrite_calls wr p l m n q (b + k) vk hd (by omega) (9 + k) (by omega) s h64
      generalize vk.write ((9 + k : Nat) : Int) s = r at *
      obtain ⟨code, v'⟩ := r
      simp only at hW hok hbad
      rw [← hj] at hW
      have HW := Lib.hid hW; have HOK := Lib.hid hok; have HBAD := Lib.hid hbad; have HF := Lib.hid hf
      have hmap := (HC1.out.keep hf (by simp; omega)).map
      have hcb := box_cell hbr1
      have HM := Lib.hid hmap; have HS := Lib.hid hs
      have HBR2 := Lib.hid hbr2
      clear hW hok hbad hf hmap hs ht hi hp hpt hd hgm hj hbr1 hbr2
      have hk0 : (0 : Int) ≤ (k : Int) := by omega
      have w3 : IntKind.i64.wrap (9 + (k : Int)) = 9 + (k : Int) := IntWalk.i64_in _ (by omega)
      go_wp2_with (first
        | ((with_reducible_and_instances refine id (α := wpList _ _ _ (⟨some 26, .lookup 85 _ _ false, _, _, _, _⟩ :: _) _ _) ?_); refine wL_lookup1 rfl _ _ 85 rfl 3 82 Try.underlying85 Try.underlying3 _ Try.zeroWS2 mc rfl i rfl _ HM.out (secV s) (by simp [HS.out]) ?_)
        | fail)
      refine HW.out.mono ?_
      rintro e w5 ⟨rfl, hf5, hd5⟩
      have hF5 := HF.out.trans (hf5.mono (l' := [p, l, m]) (by simp +contextual))
      by_cases hc : code = 0
      · subst hc
        have HD5 := Lib.hid (hd5.more (b' := b + ((k + 1 : Nat) : Int)) (by omega))
        have HP := Lib.hid (HOK.out rfl)
        have HF5 := Lib.hid hF5
        clear hd5 hf5 hF5 HW HOK HBAD HF
        go_wp2_with fail
        go_roundw
        case rel => exact ⟨k + 1, v', by omega, by go_num, HP.out, HD5.out, HF5.out⟩
        case measure => simp [intOf]; omega
      · have hb := HBAD.out hc
        have hh : v.log C ks = (code, v') := by unfold Dv.log; rw [HKL.out, hb]; simp only [hc, ↓reduceIte]
        have HD5 := Lib.hid (hd5.more (b' := b + 300) (by omega))
        have HH := Lib.hid hh
        have hbx := hf5.keep HBR2.out (by simp; omega)
        have hfx := box_free hbx
        have hcx := box_cell hbx
        have hbz := box_set hbx 0 (.int .i64 code)
        have hcz := box_cell hbz
        have hfz : Fr [p, l, m] w (w5.setCell ⟨w.heap.size + 1, 0, none⟩ (.int .i64 code)) := ((HF1.out.mono (by simp)).trans hF5).setCell (.inr (by simp)) _
        have hdz := HD5.out.keep ((Fr.refl [w.heap.size + 1] w5).setCell (p := ⟨w.heap.size + 1, 0, none⟩) (.inl (by simp)) (.int .i64 code)) (by simp; omega) (by simp; omega) (by simp; omega)
        have HFZ := Lib.hid hfz; have HDZ := Lib.hid hdz
        clear hd5 hf5 hF5 HW HOK HBAD HF hb hh hbz hfz hdz
        go_wp2_with fail
        refine ⟨.int .i64 code, ?_, ks, HK0.out, by rw [HH.out], HFZ.out, by rw [HH.out]; exact HDZ.out⟩
        simp [results, Try.f59, go_sem, hcz]
    · obtain rfl : k = K := by omega
      have HP := Lib.hid hp; have HD := Lib.hid hd; have HF := Lib.hid hf
      clear hp hd hf
      go_wp2_with fail
      refine (chunk_calls _ ax k cx).mono ?_
      rintro e w2 ⟨rfl, rfl⟩
      go_wp2_with fail
      obtain ⟨W0, hW0⟩ : ∃ W0, ((wr.alloc (.cells #[.int .i64 1] 3)).alloc (.cells #[.slice ax k cx] 41)).alloc (.cells #[.int .i64 32] 3) = W0 := ⟨_, rfl⟩
      have hs0 : W0.heap.size = wr.heap.size + 3 := by rw [← hW0]; simp
      have hF0 : Fr [] wr W0 := by rw [← hW0]; exact (((Fr.refl [] wr).alloc _).alloc _).alloc _
      have hA0 : W0.heap[wr.heap.size]? = some (.cells #[.int .i64 1] 3 (0, 0)) := by rw [← hW0]; exact ((((Fr.refl [] _).alloc _).alloc _)).keep (heap_alloc_new wr _) (by simp)
      have hA1 : W0.heap[wr.heap.size + 1]? = some (.cells #[.slice ax k cx] 41 (0, 0)) := by
        rw [← hW0]
        have := heap_alloc_new (wr.alloc (.cells #[.int .i64 1] 3)) (.cells #[.slice ax k cx] 41)
        rw [show (wr.alloc (.cells #[.int .i64 1] 3)).heap.size = wr.heap.size + 1 by simp] at this
        exact ((Fr.refl [] _).alloc _).keep this (by simp)
      have hA2 : W0.heap[wr.heap.size + 1 + 1]? = some (.cells #[.int .i64 32] 3 (0, 0)) := by
        rw [← hW0]
        have := heap_alloc_new ((wr.alloc (.cells #[.int .i64 1] 3)).alloc (.cells #[.slice ax k cx] 41)) (.cells #[.int .i64 32] 3)
        rwa [show ((wr.alloc (.cells #[.int .i64 1] 3)).alloc (.cells #[.slice ax k cx] 41)).heap.size = wr.heap.size + 1 + 1 by simp] at this
      rw [hW0]
      have hst := chunk_stops 5 (by omega) (wr.heap.size + 1) (wr.heap.size + 1 + 1) k cx ax g HAX.out hcx (by omega) W0 (box_cell hA1 0) (box_cell hA2 0)
      have hd0 := HD.out.keep hF0 (by simp) (by simp) (by simp)
      have hsr2 := hsr
      have hbr1' := hF0.keep hbr1 (by simp)
      have hbr2' := hF0.keep hbr2 (by simp)
      have hcell0 : ∀ j, j < k → W0.cell? ⟨g, j, none⟩ = some (.int .i64 (ks.getD j 0)) := fun j hj => by
        have hgk := HGX.out (by omega)
        have hh := HF.out.trans (hF0.mono (l' := [p, l, m]) (by simp))
        rw [World.cell?_of_block (w := w1) (hh.block g (by omega) (by simp; omega))]; exact HCELL.out j hj
      have hFW : Fr [p, l, m] w W0 := ((HF1.out.mono (by simp)).trans HF.out).trans (hF0.mono (by simp))
      have HFW := Lib.hid hFW; have HC0 := Lib.hid hcell0; have HB1 := Lib.hid hbr1'; have HB2 := Lib.hid hbr2'; have HD0 := Lib.hid hd0; have HA0 := Lib.hid hA0
      clear hW0 hFW hcell0 hbr1' hbr2' hd0 hbr1 hbr2 hA1 hA2 HD HF hF0
      refine (wpIn_wide (n := 6)).1 ?_
      refine wpIn_rangeFunc_ownG rfl (by omega) (gf := 76) (lb := #[.pointer (some ⟨wr.heap.size + 1, 0, none⟩), .pointer (some ⟨wr.heap.size + 1 + 1, 0, none⟩)]) rfl trivial (enters_of Try.func76 (by kernel_rfl) rfl)
        hst Two.trans (Two.b (by omega) (by omega)) (Below.refl _ _) (fun _ => rfl)
        (fun pre W => ∃ vj, vk.puts (fP ks pre) 1 (places pre.length) = (0, vj) ∧ DvAt W p l m n q (b + k + pre.length) vj ∧ W.heap[wr.heap.size]? = some (.cells #[.int .i64 (1 + pre.length : Nat)] 3 (0, 0)) ∧ Fr [p, l, m, wr.heap.size] W0 W)
        (fun c pre W => ∃ code vj, c = .ret ∧ code ≠ 0 ∧ vk.puts (fP ks pre) 1 (places pre.length) = (code, vj) ∧ DvAt W p l m n q (b + 300) vj ∧ W.heap[w.heap.size + 1]? = some (.cells #[.int .i64 code] 27 (0, 0)) ∧ Fr [p, l, m, wr.heap.size, w.heap.size + 1] W0 W)
        (own_of_fr (fun pre A A' r hr ⟨vj, h1, h2, h3, h4⟩ hf => ⟨vj, h1, h2.keep hf (fun hx => by have := hr _ hx; omega) (fun hx => by have := hr _ hx; omega) (fun hx => by have := hr _ hx; omega), hf.keep h3 (fun hx => by have := hr _ hx; omega), h4.trans_new hf (fun x hx => .inr (hr x hx))⟩))
        (fun c => own_of_fr (fun pre A A' r hr ⟨code, vj, h0, h1, h2, h3, h4, h5⟩ hf => ⟨code, vj, h0, h1, h2, h3.keep hf (fun hx => by have := hr _ hx; omega) (fun hx => by have := hr _ hx; omega) (fun hx => by have := hr _ hx; omega), hf.keep h4 (fun hx => by have := hr _ hx; omega), h5.trans_new hf (fun x hx => .inr (hr x hx))⟩))
        ⟨vk, rfl, HD0.out.more (by simp), HA0.out, Fr.refl _ _⟩
        (fun x_ => { tmps := #[.pointer (some ⟨p, 0, none⟩), .map (some mc), .pointer (some ⟨w.heap.size, 0, none⟩), undef, .pointer (some ⟨w.heap.size + 1, 0, none⟩), .slice ax k cx, u6, u7, u8, .pointer (some ⟨wr.heap.size, 0, none⟩), pieceV g k x_, undef, .map (some mc), .slice ax k cx, .slice ax k cx, .int .i64 k, .int .i64 k, .bool false, u18, u19, u20, u21, u22, u23, u24, u25, u26, u27, u28, u29, u30, u31, .slice ax k cx,
          .func (.func 76) #[] #[.pointer (some ⟨wr.heap.size + 1, 0, none⟩), .pointer (some ⟨wr.heap.size + 1 + 1, 0, none⟩)], pieceV g k x_, undef, undef, undef, undef, undef, undef, undef, undef, undef, undef, undef, undef], defers := [] }) ?assign ?body ?done ?stop
      case assign =>
        intro l' x W K' hK'
        gi_wp2
        exact hK'
      case body =>
        rintro l' pre x W ⟨vj, hpj, hdj, haj, hfj⟩ hlt
        have hkpos : 0 < k := by omega
        obtain rfl := HAX.out hkpos
        have hgk := HGX.out hkpos
        have hfs := hfj.size
        have hcw : ∀ j, j < ks.length → W.cell? ⟨g, j, none⟩ = some (.int .i64 (ks.getD j 0)) := fun j hj => by
          rw [World.cell?_of_block (w := W0) (hfj.block g (by omega) (by simp; omega))]
          exact HC0.out j (by have := HKL.out; omega)
        have hRI := piece_RI (k := x) hcw
        have hAS : ∀ W', Fr [] W W' → Calls Try.prog 72 #[pieceV g k x] W' fun e w' => e = .returned (secV (asK (pieceL ks x) (pieceL ks x).length)) ∧ Fr [] W' w' := fun W' hf => by
          have := asSector_calls W' (some ⟨g, 32 * x, none⟩) (pieceL ks x).length (pieceL ks x) (hRI.keep hf) (by rw [pieceL_len]; omega)
          unfold pieceV
          rw [show min 32 (k - 32 * x) = (pieceL ks x).length by rw [pieceL_len, HKL.out]]
          exact this
        have hWR : ∀ W', Fr [] W W' → Calls Try.prog 70 #[.pointer (some ⟨p, 0, none⟩), .int .i64 (1 + (pre.length : Int)), secV (asK (pieceL ks x) (pieceL ks x).length)] W' fun e w' => e = .returned (.int .i64 (vj.write ((1 + pre.length : Nat) : Int) (asK (pieceL ks x) (pieceL ks x).length)).1) ∧ Fr [p, m] W' w' ∧ DvAt w' p l m n q (b + k + pre.length + 1) (vj.write ((1 + pre.length : Nat) : Int) (asK (pieceL ks x) (pieceL ks x).length)).2 := fun W' hf => by
          rw [show (1 + (pre.length : Int)) = ((1 + pre.length : Nat) : Int) by omega]
          exact wwrite_calls W' p l m n q (b + k + pre.length) vj (hdj.keep hf (by simp) (by simp) (by simp)) (by omega) (1 + pre.length) (by omega) _ (asK_length _ _)
        have hstep := fP_step hpj x
        generalize asK (pieceL ks x) (pieceL ks x).length = S at *
        obtain ⟨sv, hsv⟩ : ∃ sv, secV S = sv := ⟨_, rfl⟩
        rw [hsv] at hAS hWR
        generalize vj.write ((1 + pre.length : Nat) : Int) S = r at *
        obtain ⟨code, v'⟩ := r
        simp only at hWR
        have hb1 := hfj.keep HB1.out (by simp; omega)
        have hb2 := hfj.keep HB2.out (by simp; omega)
        have hcb := box_cell hb1
        have hca := box_cell haj
        have HAS := Lib.hid hAS; have HWR := Lib.hid hWR; have HST := Lib.hid hstep; have HB1' := Lib.hid hb1; have HB2' := Lib.hid hb2; have HAJ := Lib.hid haj; have HFJ := Lib.hid hfj
        clear hAS hWR hstep hb1 hb2 haj hfj hRI hcw hdj hpj hsv
        dsimp only
        gi_wp2_with fail
        gi_region_with (first
          | ((first | refine ⟨trivial, (fun _ => (by omega)), ?_⟩ | refine ⟨trivial, ?_⟩); gi_at_call 72; (with_reducible refine (CallsIn.inRound l' (callsIn_wide.2 (HAS.out _ ?_))).mono ?_); exact (Fr.refl [] W).drew; rintro e wA ⟨rfl, hfA⟩; have hcA := box_cell (((Fr.refl [] W).drew.trans hfA).keep HB1'.out (by simp)); have hcA2 := box_cell (((Fr.refl [] W).drew.trans hfA).keep HAJ.out (by simp)))
          | ((first | refine ⟨trivial, (fun _ => (by omega)), ?_⟩ | refine ⟨trivial, ?_⟩); gi_at_call 70; (with_reducible refine (CallsIn.inRound l' (callsIn_wide.2 (HWR.out _ ?_))).mono ?_); exact (Fr.refl [] W).drew.trans hfA; rintro e wB ⟨rfl, hfB, hdB⟩))
        all_goals
          have hF1 := (Fr.refl [] W).drew.trans hfA
          have hF2 := (hF1.mono (l' := [p, m]) (by simp)).trans hfB
          have hb2 := hF2.keep HB2'.out (by simp; omega)
          have ha2 := hF2.keep HAJ.out (by simp; omega)
          have hF3 := HFJ.out.trans (hF2.mono (l' := [p, l, m, wr.heap.size]) (by simp +contextual))
          have hs3 := hF2.size
          by_cases hc : code = 0
          · subst hc
            have hca2 := box_cell ha2
            have hfa2 := box_free ha2
            have hz := box_set ha2 0 (.int .i64 (2 + (pre.length : Int)))
            have w3 : IntKind.i64.wrap (1 + (pre.length : Int) + 1) = 2 + (pre.length : Int) := by rw [IntWalk.i64_in _ (by omega)]; omega
            have hF4 : Fr [p, m, wr.heap.size] W (wB.setCell ⟨wr.heap.size, 0, none⟩ (.int .i64 (2 + (pre.length : Int)))) := (hF2.mono (by simp +contextual)).setCell (.inl (by simp)) _
            have hF5 : Fr [p, l, m, wr.heap.size] W0 (wB.setCell ⟨wr.heap.size, 0, none⟩ (.int .i64 (2 + (pre.length : Int)))) := hF3.setCell (.inl (by simp)) _
            have hdz := hdB.keep ((Fr.refl [wr.heap.size] wB).setCell (p := ⟨wr.heap.size, 0, none⟩) (.inl (by simp)) (.int .i64 (2 + (pre.length : Int)))) (by simp; omega) (by simp; omega) (by simp; omega)
            have HF4 := Lib.hid hF4; have HF5 := Lib.hid hF5; have HDZ := Lib.hid hdz; have HZ := Lib.hid hz
            clear hF1 hF2 hF3 hF4 hF5 hdz hz hdB hfB hfA hb2
            gi_wp2_with fail
            refine ⟨keepsFrom_fr HF4.out (by simp; omega), Two.of_fr HF4.out (by simp; omega) (by simp; omega), v', ?_, ?_, ?_, HF5.out⟩
            · rw [List.length_append]; exact HST.out
            · exact HDZ.out.more (by simp; omega)
            · have := HZ.out
              rw [show ((1 + (pre ++ [x]).length : Nat) : Int) = 2 + (pre.length : Int) by simp; omega]
              simpa using this
          · have hfb2 := box_free hb2
            have hcb2 := box_cell hb2
            have hz := box_set hb2 0 (.int .i64 code)
            have hF4 : Fr [p, m, w.heap.size + 1] W (wB.setCell ⟨w.heap.size + 1, 0, none⟩ (.int .i64 code)) := (hF2.mono (by simp +contextual)).setCell (.inl (by simp)) _
            have hF5 : Fr [p, l, m, wr.heap.size, w.heap.size + 1] W0 (wB.setCell ⟨w.heap.size + 1, 0, none⟩ (.int .i64 code)) := (hF3.mono (by simp +contextual)).setCell (.inl (by simp)) _
            have hdz := hdB.keep ((Fr.refl [w.heap.size + 1] wB).setCell (p := ⟨w.heap.size + 1, 0, none⟩) (.inl (by simp)) (.int .i64 code)) (by simp; omega) (by simp; omega) (by simp; omega)
            have HF4 := Lib.hid hF4; have HF5 := Lib.hid hF5; have HDZ := Lib.hid hdz; have HZ := Lib.hid hz
            clear hF1 hF2 hF3 hF4 hF5 hdz hz hdB hfB hfA ha2
            gi_wp2_with fail
            refine ⟨keepsFrom_fr HF4.out (by simp; omega), code, v', rfl, hc, ?_, ?_, ?_, HF5.out⟩
            · rw [List.length_append]; exact HST.out
            · exact HDZ.out.more (by omega)
            · simpa using HZ.out
      case done =>
        rintro D xs W hDD rfl ⟨vj, hpj, hdj, haj, hfj⟩ hK'
        rw [List.length_range] at hpj hdj
        have hfs := hfj.size
        have hpj2 : vk.puts (fun i => asK (pieceL ks i.toNat) (pieceL ks i.toNat).length) 1 (places ((k + 31) / 32)) = (0, vj) := by
          rw [← Dv.puts_congr 1 _ vk (fP_range ks _ _ (Nat.le_refl _))]; exact hpj
        have hb1 := hfj.keep HB1.out (by simp; omega)
        have hb2 := hfj.keep HB2.out (by simp; omega)
        have hcb := box_cell hb1
        have hfl := dflush_calls W p l m n q _ vj hdj (by omega)
        obtain ⟨r, hr⟩ : ∃ r, vj.flush = r := ⟨_, rfl⟩
        rw [hr] at hfl
        obtain ⟨code, v2⟩ := r
        simp only at hfl
        have hh : v.log C ks = (code, v2) := by
          unfold Dv.log
          rw [HKL.out, HP.out]
          simp only [if_true]
          rw [hpj2]
          simp only [if_true, hr]
        have HFL := Lib.hid hfl; have HH := Lib.hid hh; have HB2' := Lib.hid hb2; have HFJ := Lib.hid hfj; have HKD := Lib.hid hK'
        clear hfl hh hb1 hb2 hfj hK' hpj hdj haj hpj2 hr
        go_wp2_with fail
        refine HFL.out.mono ?_
        rintro e w5 ⟨rfl, hf5, hd5⟩
        have hb5 := hf5.keep HB2'.out (by simp; omega)
        have hcb5 := box_cell hb5
        have hfb5 := box_free hb5
        have hz := box_set hb5 0 (.int .i64 code)
        have hone : Fr [w.heap.size + 1] w5 (w5.setCell ⟨w.heap.size + 1, 0, none⟩ (.int .i64 code)) := (Fr.refl _ _).setCell (.inl (by simp)) _
        have hKZ : (w5.setCell ⟨w.heap.size + 1, 0, none⟩ (.int .i64 code)).heap[D]? = some (.deferred (some [])) := hone.keep (hf5.keep HKD.out (by simp; omega)) (by simp; omega)
        have hFZ : Fr [p, l, m] w (w5.setCell ⟨w.heap.size + 1, 0, none⟩ (.int .i64 code)) := ((HFW.out.trans_new HFJ.out (by intro x hx; simp at hx ⊢; omega)).trans hf5).setCell (.inr (by simp)) _
        have hdz := hd5.keep hone (by simp; omega) (by simp; omega) (by simp; omega)
        obtain ⟨WZ, hWZ⟩ : ∃ WZ, w5.setCell ⟨w.heap.size + 1, 0, none⟩ (.int .i64 code) = WZ := ⟨_, rfl⟩
        have HWZ := Lib.hid hWZ
        rw [hWZ] at hKZ hFZ hdz hz
        have hfD : Fr [D] WZ (WZ.putObj D (.deferred none)) := Fr.of_grown (grownBy_putObj' WZ D (.deferred none))
        have hcF := box_cell (hfD.keep hz (by simp; omega))
        have hFF := hFZ.trans_new hfD (by intro x hx; simp at hx ⊢; omega)
        have hdF := (hdz.keep hfD (by simp; omega) (by simp; omega) (by simp; omega)).more (b' := b + 300) (by omega)
        have HKZ := Lib.hid hKZ; have HFF := Lib.hid hFF; have HDF := Lib.hid hdF; have HCF := Lib.hid hcF
        clear hone hKZ hFZ hdz hWZ hz hfD hFF hdF hd5 hf5 hb5 hcF
        go_wp2_with fail
        rw [HWZ.out]
        refine ⟨by simp, .inl ⟨_, _, rfl, run_takeDeferred HKZ.out, ?_⟩⟩
        refine ⟨.int .i64 code, ?_, ks, HK0.out, by rw [HH.out], HFF.out, by rw [HH.out]; exact HDF.out⟩
        have hcF := HCF.out
        simp [results, Try.f59, go_sem, hcF]
      case stop =>
        rintro D c pre W hDD ⟨k1, hk1, rfl⟩ ⟨code, vj, rfl, hc, hpj, hdj, hbj, hfj⟩ hK'
        rw [List.length_range] at hpj
        have hpj2 := fP_stop hk1 hpj hc
        have hh : v.log C ks = (code, vj) := by
          unfold Dv.log
          rw [HKL.out, HP.out]
          simp only [if_true]
          rw [hpj2]
          simp only [hc, if_false]
        have hfs := hfj.size
        have hfD : Fr [D] W (W.putObj D (.deferred none)) := Fr.of_grown (grownBy_putObj' W D (.deferred none))
        have hcF := box_cell (hfD.keep hbj (by simp; omega))
        have hFF := (HFW.out.trans_new hfj (by intro x hx; simp at hx ⊢; omega)).trans_new hfD (by intro x hx; simp at hx ⊢; omega)
        have hdF := hdj.keep hfD (by simp; omega) (by simp; omega) (by simp; omega)
        have HFF := Lib.hid hFF; have HDF := Lib.hid hdF; have HCF := Lib.hid hcF; have HKD := Lib.hid hK'; have HH := Lib.hid hh
        clear hfD hcF hFF hdF hK' hh hpj hpj2 hdj hbj hfj
        gi_wp2
        refine ⟨by simp, .inl ⟨_, _, rfl, run_takeDeferred HKD.out, ?_⟩⟩
        refine ⟨.int .i64 code, ?_, ks, HK0.out, by rw [HH.out], HFF.out, by rw [HH.out]; exact HDF.out⟩
        have hcF := HCF.out
        simp [results, Try.f59, go_sem, hcF]
end Go.Proofs.Ytoifpbifipgpkaa
