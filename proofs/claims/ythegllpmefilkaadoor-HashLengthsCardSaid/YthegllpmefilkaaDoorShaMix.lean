/-
  One block mixed into a state.
-/
import Derived.Test.YthegllpmefilkaaDoorShaSch
namespace Go.Proofs.YthegllpmefilkaaDoor
open Go.RowKit Go.MapKept
section
variable {P : Program} {ops : Array Oper} {rest : List Oper} {o : Oper} {a : Act} {w : World} {Q : Exit → Act → World → Prop}
/-- x[i] of an array by value. -/
theorem wL_index (hg : o.guard = none) (T : TypeId) (x i : Operand) (hop : o.op = .index T x i) (n : Nat) (e : TypeId) (hu : P.underlying T = some (.array n e)) (hs : ∀ w, (sizeOf e).run P w = .ok 1 w) (ha : ∀ w, (isAgg e).run P w = .ok false w)
    (cs : Array Value) (hx : a.eval x = .agg cs) (k : Nat) (hi : a.eval i = .int .i64 k) (hk : k < n) (v : Value) (hv : cs[k]? = some v) (h : wpList P ops Q rest (a.put o.dst v) w) : wpList P ops Q (o :: rest) a w := by
  refine wpList_val hg (v := v) (w' := w) ?_ h
  have hk' : (k : Int) < (n : Int) := by omega
  simp [execOp, hop, hx, hi, Instr.index, asIntOf, run_underlying hu, hk', hs, part, ha, hv]
  exact fun hn => absurd hn (by omega)
/-- A parameter that is an array, in a block of its own. -/
theorem wL_box (hg : o.guard = none) (T : TypeId) (x : Operand) (hop : o.op = .box T x) (cs : Array Value) (hx : a.eval x = .agg cs)
    (h : wpList P ops Q rest (a.put o.dst (.pointer (some ⟨w.heap.size, 0, none⟩))) (w.alloc (.cells cs T))) : wpList P ops Q (o :: rest) a w := by
  refine wpList_val hg ?_ h
  simp [execOp, hop, hx, Instr.box, newVar, newRow, Value.cells]
end
theorem Tryd.sz34 (w : World) : (sizeOf 34).run Tryd.prog w = .ok 1 w := by kernel_rfl
theorem Tryd.ag34 (w : World) : (isAgg 34).run Tryd.prog w = .ok false w := by kernel_rfl
theorem Tryd.zero36 (w : World) : (zeroValue 36).run Tryd.prog w = .ok (.agg (wv (pad0 8 []))) w := by kernel_rfl
theorem Tryd.info36 (S : List Int) (h : S.length = 8) : (Tryd.prog.info? 36).map (·.size) = some (wv S).size := by
  rw [wv_size, h]; kernel_rfl
theorem St.l_length (s : St) : s.l.length = 8 := rfl
/-- The table of the rounds' words. -/
def TabAt (w : World) : Prop := ∀ i, i < 64 → w.cell? ⟨0, i, none⟩ = some (.int .u32 (kK i))
theorem TabAt.pos {w : World} (h : TabAt w) : 0 < w.heap.size := World.block_lt_of_cell? _ _ (h 0 (by decide))
theorem TabAt.keep {w w' : World} {l : List Nat} (h : TabAt w) (hfr : Fr l w w') (hn : 0 ∉ l) : TabAt w' := fun i hi => by
  rw [World.cell?_of_block (w := w) (hfr.block 0 h.pos hn)]; exact h i hi
theorem choose_still (w : World) (x y z : Int) : Calls Tryd.prog 28 #[.int .u32 x, .int .u32 y, .int .u32 z] w fun e w' => e = .returned (.int .u32 (chI x y z)) ∧ w' = w :=
  (choose_calls w x y z).mono fun _ _ ⟨h1, h2⟩ => ⟨h1, h2.symm⟩
/-- Behind the rounds: the first k words are added. -/
def addL (s t : List Int) (k : Nat) : List Int := (List.range 8).map fun i => if i < k then (s.getD i 0 + t.getD i 0) % 4294967296 else s.getD i 0
theorem addL_length (s t : List Int) (k : Nat) : (addL s t k).length = 8 := by simp [addL]
theorem addL_zero (s : St) (t : List Int) : addL s.l t 0 = s.l := rfl
theorem addL_full (s t : St) : addL s.l t.l 8 = (s.add t).l := rfl
theorem addL_get (s t : List Int) (k : Nat) (h : k < 8) : (addL s t k).getD k 0 = s.getD k 0 := by simp [addL, h]
theorem addL_set (s t : List Int) (k : Nat) (h : k < 8) : (addL s t k).set k ((s.getD k 0 + t.getD k 0) % 4294967296) = addL s t (k + 1) := by
  apply List.ext_getElem?
  intro i
  rw [List.getElem?_set]
  by_cases e : k = i
  · subst e
    simp [addL, h]
  · rw [if_neg e]
    by_cases h8 : i < 8
    · have : (i < k + 1) = (i < k) := by simp only [eq_iff_iff]; omega
      simp [addL, h8, this]
    · simp [addL, h8]
/-- What stands in memory while a block is mixed. -/
structure MixAt (w wr : World) (l : List Int) : Prop where
  fr : Fr [] w wr
  st : wr.heap[w.heap.size]? = some (.cells (wv l) 36 (0, 0))
  res : wr.heap[w.heap.size + 1]? = some (.cells (wv (pad0 8 [])) 36 (0, 0))
theorem MixAt.go {w wr w' : World} {l : List Int} (h : MixAt w wr l) (hf : Fr [] wr w') : MixAt w w' l := ⟨h.fr.trans hf, hf.keep h.st (by simp), hf.keep h.res (by simp)⟩
theorem drewN_fr (w : World) (k : Nat) : Fr [] w (w.drewN k) := ⟨rfl, rfl, rfl, Nat.le_refl _, fun _ _ _ => rfl⟩
/-- The slots hold a state. -/
def Slots (t : St) (v6 v7 v8 v9 v10 v11 v12 v13 : Value) : Prop :=
  v6 = .int .u32 t.a ∧ v7 = .int .u32 t.b ∧ v8 = .int .u32 t.c ∧ v9 = .int .u32 t.d ∧ v10 = .int .u32 t.e ∧ v11 = .int .u32 t.f ∧ v12 = .int .u32 t.g ∧ v13 = .int .u32 t.h
set_option maxRecDepth 100000 in
set_option maxHeartbeats 4000000 in
theorem mix_calls (w : World) (s : St) (b off cap : Nat) (bs : List UInt8) (hs : BytesAt w b off bs) (hl : bs.length = 64) (hc : 64 ≤ cap ∧ cap ≤ 9223372036854775807) (hT : TabAt w) :
    Calls Tryd.prog 24 #[.agg (wv s.l), .slice (some ⟨b, off, none⟩) 64 cap] w fun e w' => e = .returned (.agg (wv (mixS s bs).l)) ∧ Fr [] w w' := by
  have hbw : b < w.heap.size := World.block_lt_of_cell? _ _ (hs.cell (j := 0) (by omega))
  obtain ⟨a0, b0, c0, d0, e0, f0, g0, h0⟩ := s
  have hsz := St.l_length ⟨a0, b0, c0, d0, e0, f0, g0, h0⟩
  obtain ⟨sl, hsl⟩ : ∃ sl, St.l ⟨a0, b0, c0, d0, e0, f0, g0, h0⟩ = sl := ⟨_, rfl⟩
  rw [hsl]
  go_enter Tryd.func24, Tryd.ntmps24
  go_wp2_with (first
    | ((with_reducible_and_instances refine id (α := wpList _ _ _ (⟨some 2, .box 36 (.tmp 0), _, _, _, _⟩ :: _) _ _) ?_); refine wL_box rfl 36 (.tmp 0) rfl (wv sl) rfl ?_)
    | ((with_reducible_and_instances refine id (α := wpList _ _ _ (⟨some 4, .alloc 36, _, _, _, _⟩ :: _) _ _) ?_); refine wL_allocW rfl 36 rfl _ Tryd.zero36 ?_)
    | fail)
  have hm0 : MixAt w ((w.alloc (.cells (wv sl) 36)).alloc (.cells (wv (pad0 8 [])) 36)) sl := ⟨((Fr.refl [] w).alloc _).alloc _, heap_alloc2_old _ _ _, heap_alloc2_new _ _ _⟩
  have hs0 := hs.keep hm0.fr (by simp) hbw
  have hT0 := hT.keep hm0.fr (by simp)
  have HM := Lib.hid hm0; clear hm0
  have HL := Lib.hid hsl; clear hsl
  generalize (w.alloc (.cells (wv sl) 36)).alloc (.cells (wv (pad0 8 [])) 36) = w1 at *
  refine (schedule_calls w1 b off cap bs hs0 hl hc).mono ?_
  rintro e w2 ⟨rfl, hf2⟩
  have hm2 : MixAt w (w2.alloc (.cells (wv (sch bs)) 51)) sl := HM.out.go (hf2.alloc _)
  have hT2 : TabAt (w2.alloc (.cells (wv (sch bs)) 51)) := hT0.keep (hf2.alloc _) (by simp)
  have hnew : (w2.alloc (.cells (wv (sch bs)) 51)).heap[w2.heap.size]? = some (.cells (wv (sch bs)) 51 (0, 0)) := heap_alloc_last _ _
  have hws := sch_length bs
  have hM : ∀ s, mixS s bs = s.add (rnds s (sch bs) 64) := fun _ => rfl
  generalize sch bs = ws at *
  have HM2 := Lib.hid hm2; clear hm2 HM
  have HS := Lib.hid hM; clear hM
  have HN := Lib.hid hnew; clear hnew
  have HW := Lib.hid hws; clear hws
  have HT := Lib.hid hT2; clear hT2 hT hT0 hs hs0 hsz
  go_wp2_with (first
    | ((with_reducible_and_instances refine id (α := wpList _ _ _ (⟨some 5, .alloc 51, _, _, _, _⟩ :: _) _ _) ?_); refine wL_allocW rfl 51 rfl _ Tryd.zero51 ?_)
    | ((with_reducible_and_instances refine id (α := wpList _ _ _ (⟨none, .store 51 (.tmp 5) (.tmp 21), _, _, _, _⟩ :: _) _ _) ?_); refine wL_storeNew rfl 51 (.tmp 5) (.tmp 21) rfl w2 w2.heap.size rfl rfl (wv ws) rfl (wv (pad0 64 [])) (Tryd.info51 ws HW.out) (pad_size 64 ws HW.out) (wv_one _) ?_)
    | fail)
  have hcs : ∀ i, i < 8 → (w2.alloc (.cells (wv ws) 51)).cell? ⟨w.heap.size, i, none⟩ = some (.int .u32 (sl.getD i 0)) := fun i hi => by
    rw [box_cell HM2.out.st, wv_get _ _ (by rw [← HL.out]; exact hi)]
  generalize w2.alloc (.cells (wv ws) 51) = w3 at *
  have q0 := hcs 0 (by decide); have q1 := hcs 1 (by decide); have q2 := hcs 2 (by decide); have q3 := hcs 3 (by decide)
  have q4 := hcs 4 (by decide); have q5 := hcs 5 (by decide); have q6 := hcs 6 (by decide); have q7 := hcs 7 (by decide)
  rw [← HL.out] at q0 q1 q2 q3 q4 q5 q6 q7
  replace q0 : w3.cell? ⟨w.heap.size, 0, none⟩ = some (.int .u32 a0) := q0
  replace q1 : w3.cell? ⟨w.heap.size, 1, none⟩ = some (.int .u32 b0) := q1
  replace q2 : w3.cell? ⟨w.heap.size, 2, none⟩ = some (.int .u32 c0) := q2
  replace q3 : w3.cell? ⟨w.heap.size, 3, none⟩ = some (.int .u32 d0) := q3
  replace q4 : w3.cell? ⟨w.heap.size, 4, none⟩ = some (.int .u32 e0) := q4
  replace q5 : w3.cell? ⟨w.heap.size, 5, none⟩ = some (.int .u32 f0) := q5
  replace q6 : w3.cell? ⟨w.heap.size, 6, none⟩ = some (.int .u32 g0) := q6
  replace q7 : w3.cell? ⟨w.heap.size, 7, none⟩ = some (.int .u32 h0) := q7
  clear hcs
  go_quiet (fail)
  have hm4 := HM2.out.go (drewN_fr w3 nq)
  have hT4 := HT.out.keep (drewN_fr w3 nq) (by simp)
  have hn4 : (w3.drewN nq).heap[w2.heap.size]? = some (.cells (wv ws) 51 (0, 0)) := HN.out
  generalize w3.drewN nq = w4 at *
  clear q0 q1 q2 q3 q4 q5 q6 q7 HM2 HT HN
  have HM4 := Lib.hid hm4; clear hm4
  have HT4 := Lib.hid hT4; clear hT4
  have HN4 := Lib.hid hn4; clear hn4
  go_wp2_with (first
    | ((with_reducible_and_instances refine id (α := wpList _ _ _ (⟨some 38, .load 51 (.tmp 5), _, _, _, _⟩ :: _) _ _) ?_); refine wpList_load_row rfl 51 (.tmp 5) rfl w2.heap.size rfl 51 (wv ws) (0, 0) _ HN4.out Tryd.underlying51 rfl (Tryd.info51 ws HW.out) ?_)
    | fail)
  go_loopw [6, 7, 8, 9, 10, 11, 12, 13, 39] (fun v6 v7 v8 v9 v10 v11 v12 v13 v39 wr => ∃ k : Nat, k ≤ 64 ∧ v39 = .int .i64 k ∧ Slots (rnds ⟨a0, b0, c0, d0, e0, f0, g0, h0⟩ ws k) v6 v7 v8 v9 v10 v11 v12 v13 ∧ MixAt w wr sl ∧ TabAt wr) (fun _ _ _ _ _ _ _ _ v39 _ => 64 - (intOf v39).toNat)
  case atStart => exact ⟨0, by omega, rfl, ⟨rfl, rfl, rfl, rfl, rfl, rfl, rfl, rfl⟩, HM4.out, HT4.out⟩
  case round =>
    obtain ⟨k, hk, rfl, hS, hM, hTr⟩ := hrel
    clear HM4 HT4 HN4
    by_cases hlt : k < 64
    · have hnext : rnds ⟨a0, b0, c0, d0, e0, f0, g0, h0⟩ ws (k + 1) = rnd (rnds ⟨a0, b0, c0, d0, e0, f0, g0, h0⟩ ws k) (kK k) (ws.getD k 0) := rfl
      obtain ⟨t, ht⟩ : ∃ t, rnds ⟨a0, b0, c0, d0, e0, f0, g0, h0⟩ ws k = t := ⟨_, rfl⟩
      rw [ht] at hnext hS
      clear ht
      obtain ⟨a, b, c, d, e, f, g, h⟩ := t
      obtain ⟨rfl, rfl, rfl, rfl, rfl, rfl, rfl, rfl⟩ := hS
      have hwk : (wv ws)[k]? = some (.int .u32 (ws.getD k 0)) := wv_get ws k (by rw [HW.out]; exact hlt)
      have hkk := hTr k hlt
      generalize ws.getD k 0 = wk at *
      generalize kK k = kk at *
      have HX := Lib.hid hnext; clear hnext
      have HK := Lib.hid hwk; clear hwk
      have HM := Lib.hid hM; clear hM
      have HT := Lib.hid hTr; clear hTr
      have hk64 : (k : Int) < 64 := by omega
      go_wp2_with (first
        | ((with_reducible_and_instances refine id (α := wpList _ _ _ (⟨some 42, .index 51 (.tmp 38) (.tmp 39), _, _, _, _⟩ :: _) _ _) ?_); refine wL_index rfl 51 (.tmp 38) (.tmp 39) rfl 64 34 Tryd.underlying51 Tryd.sz34 Tryd.ag34 (wv ws) rfl k rfl hlt _ HK.out ?_)
        | fail)
      go_quiet (first | (go_at_call 27; exact Calls.quiet_of_same (turn_still _ _ _ (by decide))) | (go_at_call 28; exact Calls.quiet_of_same (choose_still _ _ _ _)))
      have hM := HM.out.go (drewN_fr wr nq)
      have hTr := HT.out.keep (drewN_fr wr nq) (by simp)
      generalize wr.drewN nq = w5 at *
      have HM5 := Lib.hid hM; clear hM
      have HT5 := Lib.hid hTr; clear hTr HM HT hkk
      go_wp2_with (first
        | (go_at_call 27; (with_reducible refine (turn_calls _ _ _ (by decide)).mono ?_); rintro e' w' ⟨rfl, rfl⟩)
        | (go_at_call 29; (with_reducible refine (majority_calls _ _ _ _).mono ?_); rintro e' w' ⟨rfl, rfl⟩)
        | fail)
      go_roundw
      case rel => exact ⟨k + 1, by omega, by go_num, by rw [HX.out]; exact ⟨rfl, rfl, rfl, rfl, rfl, rfl, rfl, rfl⟩, HM5.out, HT5.out⟩
      case measure => simp [intOf]; omega
    · obtain rfl : k = 64 := by omega
      obtain ⟨t, ht⟩ : ∃ t, rnds ⟨a0, b0, c0, d0, e0, f0, g0, h0⟩ ws 64 = t := ⟨_, rfl⟩
      rw [ht] at hS
      have HR := Lib.hid ht; clear ht
      obtain ⟨a, b, c, d, e, f, g, h⟩ := t
      obtain ⟨rfl, rfl, rfl, rfl, rfl, rfl, rfl, rfl⟩ := hS
      have HM := Lib.hid hM; clear hM
      clear hTr
      go_wp2_with fail
      obtain ⟨tl, htl⟩ : ∃ tl, [a, b, c, d, e, f, g, h] = tl := ⟨_, rfl⟩
      have htw : #[Value.int IntKind.u32 a, Value.int IntKind.u32 b, Value.int IntKind.u32 c, Value.int IntKind.u32 d, Value.int IntKind.u32 e, Value.int IntKind.u32 f, Value.int IntKind.u32 g, Value.int IntKind.u32 h] = wv tl := by rw [← htl]; rfl
      have htn : tl.length = 8 := by rw [← htl]; rfl
      have HTL := Lib.hid htl; clear htl
      rw [htw]
      rw [show ((64 : Nat) : Int) = 64 from rfl]
      clear htw
      go_loopw [99] (fun v99 wr => ∃ k : Nat, k ≤ 8 ∧ v99 = .int .i64 k ∧ MixAt w wr (addL sl tl k)) (fun v99 _ => 8 - (intOf v99).toNat)
      case atStart => exact ⟨0, by omega, rfl, by have h := HM.out; rw [← HL.out] at h ⊢; exact h⟩
      case round =>
        clear HM
        obtain ⟨k, hk, rfl, hM⟩ := hrel
        by_cases hlt : k < 8
        · have htk := wv_get tl k (by rw [htn]; exact hlt)
          have hck : wr.cell? ⟨w.heap.size, k, none⟩ = some (.int .u32 (sl.getD k 0)) := by
            rw [box_cell hM.st, wv_get _ _ (by rw [addL_length]; exact hlt), addL_get _ _ _ hlt]
          have hfk := box_free hM.st k
          have hM2 : MixAt w (wr.setCell ⟨w.heap.size, k, none⟩ (.int .u32 ((sl.getD k 0 + tl.getD k 0) % 4294967296))) (addL sl tl (k + 1)) := by
            refine ⟨hM.fr.setCell (.inr (Nat.le_refl _)) _, ?_, ?_⟩
            · rw [box_set hM.st, wv_set, addL_set _ _ _ hlt]
            · rw [heap_set_other (by simp)]; exact hM.res
          generalize sl.getD k 0 = sk at *
          generalize tl.getD k 0 = tk at *
          have HTK := Lib.hid htk; clear htk
          have HM2 := Lib.hid hM2; clear hM2 hM
          have hk8 : (k : Int) < 8 := by omega
          go_wp2_with (first
            | ((with_reducible_and_instances refine id (α := wpList _ _ _ (⟨some 102, .index 35 (.tmp 98) (.tmp 99), _, _, _, _⟩ :: _) _ _) ?_); refine wL_index rfl 35 (.tmp 98) (.tmp 99) rfl 8 34 Tryd.underlying35 Tryd.sz34 Tryd.ag34 (wv tl) rfl k rfl hlt _ HTK.out ?_)
            | fail)
          go_roundw
          case rel => exact ⟨k + 1, by omega, by go_num, HM2.out⟩
          case measure => simp [intOf]; omega
        · obtain rfl : k = 8 := by omega
          have hfin : addL sl tl 8 = (mixS ⟨a0, b0, c0, d0, e0, f0, g0, h0⟩ bs).l := by
            rw [HS.out, HR.out, ← addL_full, ← HL.out, ← HTL.out]; rfl
          have hln : (mixS ⟨a0, b0, c0, d0, e0, f0, g0, h0⟩ bs).l.length = 8 := rfl
          have hst := hM.st
          rw [hfin] at hst
          obtain ⟨rl, hrl⟩ : ∃ rl, (mixS ⟨a0, b0, c0, d0, e0, f0, g0, h0⟩ bs).l = rl := ⟨_, rfl⟩
          rw [hrl] at hst hln
          have HRL := Lib.hid hrl; clear hrl
          have hF : Fr [] w (wr.setRow (w.heap.size + 1) (wv rl)) := hM.fr.setRow (.inr (Nat.le_succ _))
          have hR : (wr.setRow (w.heap.size + 1) (wv rl)).heap[w.heap.size + 1]? = some (.cells (wv rl) 36 (0, 0)) := setRow_heap _ _ _ _ _ _ hM.res
          have HST := Lib.hid hst; clear hst
          have HRS := Lib.hid hM.res; clear hM hfin
          have HRR := Lib.hid hR; clear hR
          have HLN := Lib.hid hln; clear hln
          go_wp2_with (first
            | ((with_reducible_and_instances refine id (α := wpList _ _ _ (⟨some 110, .load 36 (.tmp 2), _, _, _, _⟩ :: _) _ _) ?_); refine wpList_load_row rfl 36 (.tmp 2) rfl w.heap.size rfl 36 (wv rl) (0, 0) _ HST.out Tryd.underlying36 rfl (Tryd.info36 rl HLN.out) ?_)
            | ((with_reducible_and_instances refine id (α := wpList _ _ _ (⟨none, .store 36 (.tmp 4) (.tmp 110), _, _, _, _⟩ :: _) _ _) ?_); refine wL_storeW rfl 36 (.tmp 4) (.tmp 110) rfl (w.heap.size + 1) rfl (wv rl) rfl 36 _ HRS.out (Tryd.info36 rl HLN.out) (pad_size 8 rl HLN.out) (wv_one _) ?_)
            | fail)
          exact bodyPost_ret (results_cell_row rfl _ _ (w.heap.size + 1) 36 (wv rl) (0, 0) _ rfl HRR.out Tryd.underlying36 rfl (Tryd.info36 rl HLN.out)) rfl ⟨by rw [HRL.out], hF⟩
end Go.Proofs.YthegllpmefilkaaDoor
