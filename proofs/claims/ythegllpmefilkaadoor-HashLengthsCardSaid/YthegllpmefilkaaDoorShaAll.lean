/-
  All blocks of a text mixed into a state.
-/
import Derived.Test.YthegllpmefilkaaDoorShaMix
import Derived.StillTailTactics
namespace Go.Proofs.YthegllpmefilkaaDoor
open Go.RowKit Go.MapKept
theorem Tryd.agg36 : (Tryd.prog.underlying 36) = some (.array 8 34) := Tryd.underlying36
theorem BytesAt.sub {w : World} {b off : Nat} {s : List UInt8} (h : BytesAt w b off s) (i n : Nat) : BytesAt w b (off + i) ((s.drop i).take n) := by
  intro j v hv
  rw [cel_get] at hv
  simp only [List.getElem?_take, List.getElem?_drop] at hv
  by_cases hj : j < n
  · rw [if_pos hj] at hv
    rw [Nat.add_assoc]
    exact h (i + j) v (by rw [cel_get]; exact hv)
  · rw [if_neg hj] at hv; cases hv
theorem firstState_calls (w : World) : Calls Tryd.prog 17 #[] w fun e w' => e = .returned (.agg (wv st0.l)) ∧ Fr [] w w' := by
  have hF : Fr [] w (w.alloc (.cells (wv st0.l) 36)) := (Fr.refl [] w).alloc _
  have hR : (w.alloc (.cells (wv st0.l) 36)).heap[w.heap.size]? = some (.cells (wv st0.l) 36 (0, 0)) := heap_alloc_last _ _
  have hn : st0.l.length = 8 := rfl
  have e0 : #[Value.int .u32 1779033703, .int .u32 3144134277, .int .u32 1013904242, .int .u32 2773480762, .int .u32 1359893119, .int .u32 2600822924, .int .u32 528734635, .int .u32 1541459225] = wv st0.l := rfl
  obtain ⟨l0, hl0⟩ : ∃ l0, st0.l = l0 := ⟨_, rfl⟩
  rw [hl0] at hF hR hn e0 ⊢
  have HF := Lib.hid hF; clear hF
  have HR := Lib.hid hR; clear hR
  have HN := Lib.hid hn; clear hn
  have HL := Lib.hid hl0; clear hl0
  have HE := Lib.hid e0; clear e0
  go_enter Tryd.func17, Tryd.ntmps17
  go_wp2_with (first
    | ((with_reducible_and_instances refine id (α := wpList _ _ _ (⟨some 0, .alloc 36, _, _, _, _⟩ :: _) _ _) ?_); refine wL_allocW rfl 36 rfl _ Tryd.zero36 ?_)
    | ((with_reducible_and_instances refine id (α := wpList _ _ _ (⟨none, .store 36 (.tmp 0) (.tmp 1), _, _, _, _⟩ :: _) _ _) ?_); refine wL_storeNew rfl 36 (.tmp 0) (.tmp 1) rfl w w.heap.size rfl rfl (wv l0) (by exact congrArg Value.agg HE.out) (wv (pad0 8 [])) (Tryd.info36 l0 HN.out) (pad_size 8 l0 HN.out) (wv_one _) ?_)
    | fail)
  exact bodyPost_ret (results_cell_row rfl _ _ w.heap.size 36 (wv l0) (0, 0) _ rfl HR.out Tryd.underlying36 rfl (Tryd.info36 l0 HN.out)) rfl ⟨rfl, HF.out⟩
theorem MixAt.put {w wr : World} {l : List Int} (h : MixAt w wr l) (l' : List Int) : MixAt w (wr.setRow w.heap.size (wv l')) l' :=
  ⟨h.fr.setRow (.inr (Nat.le_refl _)), setRow_heap _ _ _ _ _ _ h.st, by rw [setRow_other _ _ _ _ (by simp)]; exact h.res⟩
set_option maxRecDepth 100000 in
set_option maxHeartbeats 4000000 in
theorem mixAll_calls (w : World) (s : St) (ad : Option Addr) (n cap : Nat) (bs : List UInt8) (hs : 0 < n → ∃ b off, ad = some ⟨b, off, none⟩ ∧ BytesAt w b off bs) (hl : bs.length = 64 * n) (hc : 64 * n ≤ cap ∧ cap ≤ 9223372036854775807) (hT : TabAt w) :
    Calls Tryd.prog 18 #[.agg (wv s.l), .slice ad (64 * n) cap] w fun e w' => e = .returned (.agg (wv (mixN s bs n).l)) ∧ Fr [] w w' := by
  have hm0 : MixAt w ((w.alloc (.cells (wv s.l) 36)).alloc (.cells (wv (pad0 8 [])) 36)) s.l := ⟨((Fr.refl [] w).alloc _).alloc _, heap_alloc2_old _ _ _, heap_alloc2_new _ _ _⟩
  have hT0 := hT.keep hm0.fr (by simp)
  obtain ⟨sl, hsl⟩ : ∃ sl, s.l = sl := ⟨_, rfl⟩
  rw [hsl] at hm0 hT0 ⊢
  have HM := Lib.hid hm0; clear hm0
  have HT := Lib.hid hT0; clear hT0
  have HL := Lib.hid hsl; clear hsl
  have HS := Lib.hid hs; clear hs
  have HP := Lib.hid hT.pos; clear hT
  go_enter Tryd.func18, Tryd.ntmps18
  go_wp2_with (first
    | ((with_reducible_and_instances refine id (α := wpList _ _ _ (⟨some 2, .box 36 (.tmp 0), _, _, _, _⟩ :: _) _ _) ?_); refine wL_box rfl 36 (.tmp 0) rfl (wv sl) rfl ?_)
    | ((with_reducible_and_instances refine id (α := wpList _ _ _ (⟨some 4, .alloc 36, _, _, _, _⟩ :: _) _ _) ?_); refine wL_allocW rfl 36 rfl _ Tryd.zero36 ?_)
    | fail)
  go_loopw [5] (fun v5 wr => ∃ k : Nat, k ≤ n ∧ v5 = .int .i64 (64 * (k : Int)) ∧ MixAt w wr (mixN s bs k).l ∧ TabAt wr) (fun v5 _ => 64 * n - (intOf v5).toNat)
  case atStart => exact ⟨0, by omega, rfl, by rw [show (mixN s bs 0).l = sl from HL.out]; exact HM.out, HT.out⟩
  case round =>
    clear HM HT
    obtain ⟨k, hk, rfl, hM, hTr⟩ := hrel
    by_cases hlt : k < n
    · obtain ⟨b, off, rfl, hbs⟩ := HS.out (by omega)
      have hbw : b < w.heap.size := World.block_lt_of_cell? _ _ (hbs.cell (j := 0) (by omega))
      have hb1 := (hbs.keep hM.fr (by simp) hbw).sub (64 * k) 64
      have hb2 : BytesAt wr.drew b (off + 64 * k) ((bs.drop (64 * k)).take 64) := hb1
      have hln : ((bs.drop (64 * k)).take 64).length = 64 := by simp; omega
      have hT2 : TabAt wr.drew := hTr
      have hM2 : MixAt w wr.drew (mixN s bs k).l := ⟨⟨hM.fr.os, hM.fr.tape, hM.fr.output, hM.fr.size, hM.fr.block⟩, hM.st, hM.res⟩
      have hrg : wr.drew.rangeAt w.heap.size 0 ((mixN s bs k).l.map (Value.int .u32)) := fun j v hv => by
        rw [box_cell hM2.st]; simpa [wv] using hv
      have hnx : mixN s bs (k + 1) = mixS (mixN s bs k) ((bs.drop (64 * k)).take 64) := rfl
      clear hM hTr hbs hb1
      obtain ⟨t, ht⟩ : ∃ t, mixN s bs k = t := ⟨_, rfl⟩
      obtain ⟨q, hq⟩ : ∃ q, (bs.drop (64 * k)).take 64 = q := ⟨_, rfl⟩
      rw [ht] at hnx hrg hM2
      rw [hq] at hb2 hln hnx
      have h8 : t.l.length = 8 := rfl
      obtain ⟨tl, htl⟩ : ∃ tl, t.l = tl := ⟨_, rfl⟩
      rw [htl] at hM2 hrg h8
      have HM2 := Lib.hid hM2; have HB2 := Lib.hid hb2; have HT2 := Lib.hid hT2; have HRG := Lib.hid hrg; have H8 := Lib.hid h8
      have HNX := Lib.hid hnx; have HLN := Lib.hid hln; have HTL := Lib.hid htl
      clear hM2 hb2 hT2 hrg h8 hnx hln htl ht hq
      have i0 : (64 : Int) * k < 64 * n := by omega
      have i2 : (64 : Int) * k + 64 ≤ cap := by omega
      have i3 : (64 * (k : Int)).toNat = 64 * k := by omega
      have i4 : (64 * (k : Int) + 64).toNat = 64 * k + 64 := by omega
      have i5 : (0 : Int) ≤ 64 * k := by omega
      have i6 : (0 : Int) ≤ 64 * k + 64 := by omega
      have i7 : (64 : Int) * k ≤ 64 * k + 64 := by omega
      have i8 : ¬ cap = 64 * k := by omega
      have i1 : IntKind.i64.wrap ((64 : Int) * k + 64) = 64 * k + 64 := IntWalk.i64_in _ (by omega)
      go_wp2_with fail
      refine wp_region_still_tail 6 (by kernel_rfl) (by kernel_rfl) ?_
      change wpStill _ _ wr.drew _ _ _
      simp only [List.take_succ_cons, List.take_zero, List.drop_succ_cons, List.drop_zero]
      refine wpStill_loadMid rfl 36 (.tmp 2) rfl w.heap.size 0 rfl (tl.map (Value.int .u32)) HRG.out 8 34 Tryd.underlying36 (Tryd.info36 tl H8.out) ?_
      iterate 5 still_step
      refine wpStill_nil ?_
      change wpList _ _ _ _ _ wr.drew
      generalize wr.drew = w5 at *
      have hmx := mix_calls w5 t b (off + 64 * k) (cap - 64 * k) q HB2.out HLN.out (by omega) HT2.out
      rw [HTL.out] at hmx
      have HMX := Lib.hid hmx; clear hmx
      go_wp2_with fail
      refine HMX.out.mono ?_
      rintro e w6 ⟨rfl, hf6⟩
      rw [← HNX.out]
      have hm6 := HM2.out.go hf6
      have hT6 := HT2.out.keep hf6 (by simp)
      obtain ⟨r, hr⟩ : ∃ r, mixN s bs (k + 1) = r := ⟨_, rfl⟩
      rw [hr]
      have h8 : r.l.length = 8 := rfl
      obtain ⟨rl, hrl⟩ : ∃ rl, r.l = rl := ⟨_, rfl⟩
      rw [hrl] at h8 ⊢
      have hm7 := hm6.put rl
      have hT7 : TabAt (w6.setRow w.heap.size (wv rl)) := hT6.keep ((Fr.refl [w.heap.size] w6).setRow (.inl (by simp))) (by simpa using Nat.ne_of_lt HP.out)
      have HM7 := Lib.hid hm7; clear hm7
      have HT7 := Lib.hid hT7; clear hT7
      have HS6 := Lib.hid hm6.st; clear hm6 hT6
      have HR8 := Lib.hid h8; clear h8
      have HR := Lib.hid hr; have HRL := Lib.hid hrl; clear hr hrl
      have h68 : (wv tl).size = (wv rl).size := by rw [wv_size, wv_size, H8.out, HR8.out]
      have H68 := Lib.hid h68; clear h68
      go_wp2_with (first
        | ((with_reducible_and_instances refine id (α := wpList _ _ _ (⟨none, .store 36 (.tmp 2) (.tmp 18), _, _, _, _⟩ :: _) _ _) ?_); refine wL_storeW rfl 36 (.tmp 2) (.tmp 18) rfl w.heap.size rfl (wv rl) rfl 36 _ HS6.out (Tryd.info36 rl HR8.out) H68.out (wv_one _) ?_)
        | fail)
      go_roundw
      case rel => exact ⟨k + 1, by omega, by go_num, by rw [HR.out, HRL.out]; exact HM7.out, HT7.out⟩
      case measure => simp [intOf]; omega
    · obtain rfl : k = n := by omega
      obtain ⟨r, hr⟩ : ∃ r, mixN s bs k = r := ⟨_, rfl⟩
      have h8 : r.l.length = 8 := rfl
      obtain ⟨rl, hrl⟩ : ∃ rl, r.l = rl := ⟨_, rfl⟩
      rw [hr, hrl] at hM
      rw [hrl] at h8
      have hF : Fr [] w (wr.setRow (w.heap.size + 1) (wv rl)) := hM.fr.setRow (.inr (Nat.le_succ _))
      have hR : (wr.setRow (w.heap.size + 1) (wv rl)).heap[w.heap.size + 1]? = some (.cells (wv rl) 36 (0, 0)) := setRow_heap _ _ _ _ _ _ hM.res
      have HST := Lib.hid hM.st
      have HRS := Lib.hid hM.res; clear hM
      have HRR := Lib.hid hR; clear hR
      have HLN := Lib.hid h8; clear h8
      have HRI := Lib.hid hr; have HRL := Lib.hid hrl; clear hr hrl
      go_wp2_with (first
        | ((with_reducible_and_instances refine id (α := wpList _ _ _ (⟨some 19, .load 36 (.tmp 2), _, _, _, _⟩ :: _) _ _) ?_); refine wpList_load_row rfl 36 (.tmp 2) rfl w.heap.size rfl 36 (wv rl) (0, 0) _ HST.out Tryd.underlying36 rfl (Tryd.info36 rl HLN.out) ?_)
        | ((with_reducible_and_instances refine id (α := wpList _ _ _ (⟨none, .store 36 (.tmp 4) (.tmp 19), _, _, _, _⟩ :: _) _ _) ?_); refine wL_storeW rfl 36 (.tmp 4) (.tmp 19) rfl (w.heap.size + 1) rfl (wv rl) rfl 36 _ HRS.out (Tryd.info36 rl HLN.out) (pad_size 8 rl HLN.out) (wv_one _) ?_)
        | fail)
      exact bodyPost_ret (results_cell_row rfl _ _ (w.heap.size + 1) 36 (wv rl) (0, 0) _ rfl HRR.out Tryd.underlying36 rfl (Tryd.info36 rl HLN.out)) rfl ⟨by rw [HRI.out, HRL.out], hF⟩
end Go.Proofs.YthegllpmefilkaaDoor
