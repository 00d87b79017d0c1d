/-
  wal: what Read tells of what waits, and of the device.
-/
import Derived.Test.YtoifpbifipgpkaaWal21
namespace Go.Proofs.Ytoifpbifipgpkaa
open Go.RowKit Go.MapKept Go.Shelf
attribute [local go_sem] Oper.semAt_some
/-- As Q, and no panic. -/
def Exit.calmed (Q : Exit → Act → World → Prop) : Exit → Act → World → Prop
  | .panic _, _, _ => False
  | e, a, w => Q e a w
theorem wp_calmed {P : Program} {c : Code} {Q : Exit → Act → World → Prop} {a : Act} {w : World} (h : c.wp P (Exit.calmed Q) a w) : c.wp P Q a w :=
  Code.wp_mono (fun e _ _ h => by cases e <;> first | exact h | exact h.elim) h
theorem told_heap {w W : World} {y : Value} {c : Int} (h4 : W.heap[w.heap.size + 1]? = some (.cells #[y] 29 (0, 0))) (h5 : W.heap[w.heap.size + 1 + 1]? = some (.cells #[.int .i64 c] 27 (0, 0))) (x : Value) (code : Int) :
    ((W.setCell ⟨w.heap.size + 1, 0, none⟩ x).setCell ⟨w.heap.size + 1 + 1, 0, none⟩ (.int .i64 code)).heap[w.heap.size + 1]? = some (.cells #[x] 29 (0, 0)) ∧
    ((W.setCell ⟨w.heap.size + 1, 0, none⟩ x).setCell ⟨w.heap.size + 1 + 1, 0, none⟩ (.int .i64 code)).heap[w.heap.size + 1 + 1]? = some (.cells #[.int .i64 code] 27 (0, 0)) := by
  have hz4 := box_set h4 0 x
  have hz5 := box_set (mid5 h5 x) 0 (.int .i64 code)
  exact ⟨((Fr.refl [w.heap.size + 1 + 1] _).setCell (p := ⟨w.heap.size + 1 + 1, 0, none⟩) (.inl (by simp)) (.int .i64 code)).keep (by simpa using hz4) (by simp), by simpa using hz5⟩
theorem own_of_fr2 {β : Type} {B : Nat} {I : β → World → Prop} (h : ∀ s A A' (r : List Nat), (∀ x ∈ r, B ≤ x ∧ ∃ o : Obj, A.heap[x]? = some o ∧ o.isCells = false) → I s A → Fr r A A' → I s A') : OwnFrom B I :=
  fun s W W' row hs hg hr => h s W W' row.toList (fun x hx => hr x (by simpa using hx)) hs (Fr.of_grown hg)
set_option maxRecDepth 100000 in
set_option maxHeartbeats 4000000 in
theorem sread_below (w : World) (s p u l m n q : Nat) (wv : Value) (all last : Int) (b : Int) (v : Dv) (hs : StoreBox w s p u wv all last false) (hd : DvAt w p l m n q b v) (hv : v.d = false) (hps : s ≠ p ∧ s ≠ l ∧ s ≠ m)
    (Cu : Int → Option (List UInt8)) (hU : ChAt w u n Cu) (hus : u ≠ s) (B : Nat) (ms : List Nat) (Cs : List (Int → Option (List UInt8))) (hlen : ms.length = Cs.length) (h16 : ms.length ≤ 8192) (hown : w.ownsRow B 85 1 wv ms.length (ms.map fun m => Value.map (some m))) (hwb : wv.ownBlock ≠ some s)
    (hm : ∀ j, j < ms.length → ChAt w (ms.getD j 0) n (Cs.getD j (fun _ => none)) ∧ ms.getD j 0 ≠ s) (hb : b < 9000000000000000000) (i : Nat) (hi : i + 300 < n) (ht : Cu i = none) :
    Calls Try.prog 20 #[.pointer (some ⟨s, 0, none⟩), .int .i64 i] w fun e w' => ∃ x c, e = .returned (.tuple #[x, .int .i64 0]) ∧ Fr [s, p] w w' ∧ StoreBox w' s p u wv all last false ∧ DvAt w' p l m n q (b + 1) ⟨c, v.f, v.d, v.ls, v.wt⟩ ∧ Bytes64 w' w.heap.size x ((overL Cs i).getD (v.text (300 + i))) := by
  have hnb := hd.at_.nb
  obtain ⟨wa, hwa⟩ : ∃ wa, ((w.alloc (.cells #[.int .i64 i] 3)).alloc (.cells #[.slice none 0 0] 29)).alloc (.cells #[.int .i64 0] 27) = wa := ⟨_, rfl⟩
  have HWA := Lib.hid hwa
  obtain ⟨hFa, hri, hr4, hr5⟩ := hwa ▸ rboxes w i
  have hls := lt_of_heap hs
  have hlu := hU.map.lt
  have hda := hd.keep hFa (by simp) (by simp) (by simp)
  have HDIE := Lib.hid (died_calls wa s p u wv all last false (hFa.keep hs (by simp)) l m n q b v hda)
  rw [hv] at HDIE
  have hcl : (cel zeros).length = 64 := by rw [cel_length]; rfl
  have hwg : ∃ g ad cap, wv = .slice ad ms.length cap ∧ (0 < ms.length → ad = some ⟨g, 0, none⟩) ∧ (g < w.heap.size ∧ (0 < ms.length → g ≠ s)) ∧ ∀ j, j < ms.length → w.cell? ⟨g, j, none⟩ = some (.map (some (ms.getD j 0))) := by
    rcases hown.2 with ⟨h1, h0⟩ | ⟨g, cap, cur, h3, h4, h5, h6, h7, h8, h9⟩
    · exact ⟨0, none, 0, by rw [h1, h0], by omega, ⟨by have := lt_of_heap hs; omega, by omega⟩, by omega⟩
    · refine ⟨g, _, cap, h3, fun _ => rfl, ⟨lt_of_heap h5, fun _ e => hwb (by rw [h3, ← e]; rfl)⟩, fun j hj => ?_⟩
      rw [box_cell h5]
      have : (cur.toList.take (ms.length * 1))[j]? = some (.map (some (ms.getD j 0))) := by rw [h9]; simp [hj]
      rw [List.getElem?_take] at this
      split at this
      · simpa using this
      · cases this
  obtain ⟨g, ad, cap, rfl, had, hgl, hgc⟩ := hwg
  have HM := Lib.hid hm; have HGC := Lib.hid hgc; have HLEN := Lib.hid hlen
  have HRI := Lib.hid hri; have HR4 := Lib.hid hr4; have HR5 := Lib.hid hr5; have HFA := Lib.hid hFa; have HD := Lib.hid hda; have HDW := Lib.hid hd; have HV := Lib.hid hv; have HU := Lib.hid (hU.keep hFa (by simp)); have HT := Lib.hid ht; have HCL := Lib.hid hcl
  clear hs hd hv hFa hri hr4 hr5 hwa hda hU ht hcl hown hm hgc hlen hwb
  refine (callsIn_wide (n := 6)).1 ?_
  refine callsIn_of_wp_marks Try.func20 rfl trivial ?_ rfl
  simp only [Try.ntmps20, List.size_toArray, List.length_cons, List.length_nil, Nat.reduceAdd, Nat.reduceSub, Array.replicate_succ, Array.replicate_zero, List.push_toArray, List.append_toArray, List.nil_append, List.cons_append]
  refine wpIn_wide.2 ?_
  go_wp2_with fail
  rw [HWA.out]
  go_wp2_with fail
  refine HDIE.out.mono ?_
  rintro e w1 ⟨rfl, hf1, hs1⟩
  have hbi := hf1.keep HRI.out (by simp; omega)
  have hb4 := hf1.keep HR4.out (by simp; omega)
  have hb5 := hf1.keep HR5.out (by simp; omega)
  have hci := box_cell hbi
  have hcs := box_cell hs1
  have hha := shas_calls w1 s p u (.slice ad ms.length cap) all last false hs1 l m n q b v (HD.out.keep hf1 (by simp; omega) (by simp; omega) (by simp; omega)) i
  rw [show (decide ((0 : Int) ≤ (i : Int)) && decide ((i : Int) < roomI n)) = true by unfold roomI; simp; split <;> omega] at hha
  have HHA := Lib.hid hha
  have HU1 := Lib.hid (HU.out.keep hf1 (by simpa using hus))
  have hbi0 := hbi
  have HB4 := Lib.hid hb4; have HB5 := Lib.hid hb5; have HS1 := Lib.hid hs1; have HF1 := Lib.hid hf1
  clear hbi hb4 hb5 hs1 hf1 HDIE hha
  go_wp2_with fail
  refine HHA.out.mono ?_
  rintro e w2 ⟨rfl, rfl⟩
  go_wp2_with fail
  have hlk : ∀ W : World, Fr [] w1 W → (Instr.lookup 85 (.map (some u)) (.int .i64 (i : Int)) true).run Try.prog W = .ok (.tuple #[.agg (cel zeros).toArray, .bool false]) W := fun W hf => by
    have := run_lookup_i (P := Try.prog) (HU1.out.keep hf (by simp)).map Try.underlying85 Try.underlying3 (Try.zeroWS2 W) (i := (i : Int))
    rw [HT.out] at this
    exact this
  have hA : Fr [] w1 (w1.alloc (.cells (cel zeros).toArray 82)).drew := ((Fr.refl [] w1).alloc _).drew
  have hl2 := hlk _ hA
  have hz := Try.zeroB
  have hci2 := box_cell (hA.keep hbi0 (by simp))
  have hcs2 := box_cell (hA.keep HS1.out (by simp))
  have hst : (storeCells ⟨w1.heap.size, 0, none⟩ (cel zeros) 0).run Try.prog (w1.alloc (.cells (cel zeros).toArray 82)).drew = .ok () (w1.alloc (.cells (cel zeros).toArray 82)).drew := 
    run_storeCells_new (P := Try.prog) w1.drew 82 (cel zeros).toArray (cel zeros).toArray (by simp [Try.sizeWS, HCL.out]) (by simp [HCL.out, zeros, cel_length]) (all_oneCell_toArray (cel_one zeros))
  have hl1 := hlk _ (Fr.refl [] w1).drew
  have hl3 := hlk _ ((Fr.refl [] w1).drew.alloc (.cells (cel zeros).toArray 82))
  have hst3 : (storeCells ⟨w1.heap.size, 0, none⟩ (cel zeros) 0).run Try.prog (w1.drew.alloc (.cells (cel zeros).toArray 82)) = .ok () (w1.drew.alloc (.cells (cel zeros).toArray 82)) := hst
  have hcl := HCL.out
  clear hlk
  go_region
  all_goals
    try rw [show w1.drew.alloc (.cells (cel zeros).toArray 82) = (w1.alloc (.cells (cel zeros).toArray 82)).drew from rfl]
    have hB : (w1.alloc (.cells (cel zeros).toArray 82)).drew.heap[w1.heap.size]? = some (.cells (cel zeros).toArray 82 (0, 0)) := heap_alloc_new w1 _
    have hF : Fr [] w1 (w1.alloc (.cells (cel zeros).toArray 82)).drew := ((Fr.refl [] w1).alloc _).drew
    generalize (w1.alloc (.cells (cel zeros).toArray 82)).drew = W at *
    have hszW := hF.size
    have hsz := HF1.out.size
    have hsza := HFA.out.size
    have hFW : Fr [s] w W := ((HFA.out.mono (by simp)).trans HF1.out).trans (hF.mono (by simp))
    have hcsW := box_cell (hF.keep HS1.out (by simp))
    have hbiW := hF.keep hbi0 (by simp)
    have hb4W := hF.keep HB4.out (by simp)
    have hb5W := hF.keep HB5.out (by simp)
    have hsW := hF.keep HS1.out (by simp)
    have hdW := HDW.out.keep hFW (by simp; omega) (by simp; omega) (by simp; omega)
    have HFW := Lib.hid hFW; have HBI := Lib.hid hbiW; have HB4W := Lib.hid hb4W; have HB5W := Lib.hid hb5W; have HSW := Lib.hid hsW; have HDW2 := Lib.hid hdW
    clear hB hF hFW hst hst3 hl1 hl2 hl3 hA hbiW hb4W hb5W hsW hdW
    go_wp2_with fail
    refine (back_calls _ ad ms.length cap).mono ?_
    rintro e w2 ⟨rfl, rfl⟩
    go_wp2_with fail
    obtain ⟨W0, hW0⟩ : ∃ W0, W.alloc (.cells #[.slice ad ms.length cap] 86) = W0 := ⟨_, rfl⟩
    have hs0 : W0.heap.size = W.heap.size + 1 := by rw [← hW0]; simp
    have hF0 : Fr [] W W0 := by rw [← hW0]; exact (Fr.refl [] W).alloc _
    have hA0 : W0.heap[W.heap.size]? = some (.cells #[.slice ad ms.length cap] 86 (0, 0)) := by rw [← hW0]; exact heap_alloc_new W _
    rw [hW0]
    have hFW0 : Fr [s] w W0 := HFW.out.trans (hF0.mono (by simp))
    have hgW0 : ∀ j, j < ms.length → W0.cell? ⟨g, j, none⟩ = some (.map (some (ms.getD j 0))) := fun j hj => by
      rw [World.cell?_of_block (w := w) (hFW0.block g hgl.1 (by simpa using hgl.2 (by omega)))]; exact HGC.out j hj
    have hst := back_stops 5 (by omega) W.heap.size g cap ms ad had h16 W0 (fun _ => by omega) (box_cell hA0 0) hgW0
    have HFW0 := Lib.hid hFW0; have HBI0 := Lib.hid (hF0.keep HBI.out (by simp)); have HB40 := Lib.hid (hF0.keep HB4W.out (by simp)); have HB50 := Lib.hid (hF0.keep HB5W.out (by simp)); have HS0 := Lib.hid (hF0.keep HSW.out (by simp)); have HD0 := Lib.hid (HDW2.out.keep hF0 (by simp) (by simp) (by simp))
    clear hW0 hFW0 hgW0 hA0 hF0
    have hbd := lt_of_heap HB50.out
    refine (wpIn_wide (n := 6)).1 ?_
    refine wpIn_rangeFunc_ownG rfl (by omega) (gf := 65) (lb := #[.pointer (some ⟨W.heap.size, 0, none⟩)]) rfl trivial (enters_of Try.func65 (by kernel_rfl) rfl)
      hst Two.trans (Two.b (by omega) (by omega)) (Below.refl _ _) (fun _ => rfl)
      (fun pre W' => (∀ y ∈ pre, Cs.getD (ms.length - 1 - y) (fun _ => none) i = none) ∧ Fr [] W0 W')
      (fun c pre W' => ∃ pre' x t gb, c = .ret ∧ pre = pre' ++ [x] ∧ (∀ y ∈ pre', Cs.getD (ms.length - 1 - y) (fun _ => none) i = none) ∧ Cs.getD (ms.length - 1 - x) (fun _ => none) i = some t ∧
        W'.heap[w.heap.size + 1]? = some (.cells #[.slice (some ⟨gb, 0, none⟩) 64 64] 29 (0, 0)) ∧ W'.heap[w.heap.size + 1 + 1]? = some (.cells #[.int .i64 0] 27 (0, 0)) ∧ W'.heap[gb]? = some (.cells (cel t).toArray 82 (0, 0)) ∧ (cel t).length = 64 ∧ w.heap.size ≤ gb ∧ gb < W'.heap.size ∧ Fr [w.heap.size + 1, w.heap.size + 1 + 1] W0 W')
      (own_of_fr (fun pre A A' r hr ⟨h1, h2⟩ hf => ⟨h1, h2.trans_new hf (fun x hx => .inr (hr x hx))⟩))
      (fun c => own_of_fr2 (fun pre A A' r hr ⟨pre', x, t, gb, h0, h1, h2, h3, h4, h5, h6, h6b, h7, h7b, h8⟩ hf => ⟨pre', x, t, gb, h0, h1, h2, h3, hf.keep h4 (fun hx => by have := (hr _ hx).1; omega), hf.keep h5 (fun hx => by have := (hr _ hx).1; omega), hf.keep h6 (fun hx => by obtain ⟨_, o, ho, hc⟩ := hr _ hx; rw [h6] at ho; cases ho; cases hc), h6b, h7, by have := hf.size; omega, h8.trans_new hf (fun x hx => .inr (hr x hx).1)⟩))
      ⟨by simp, Fr.refl _ _⟩
      (fun x_ => { tmps := #[.pointer (some ⟨s, 0, none⟩), .int .i64 i, undef, .pointer (some ⟨w.heap.size, 0, none⟩), .pointer (some ⟨w.heap.size + 1, 0, none⟩), .pointer (some ⟨w.heap.size + 1 + 1, 0, none⟩), .pointer (some ⟨w1.heap.size, 0, none⟩), .bool false, undef, .map (some (ms.getD (ms.length - 1 - x_) 0)), undef, undef,
        .pointer (some ⟨s, 0, none⟩), .bool false, .pointer (some ⟨s, 0, none⟩), .int .i64 i, .bool true, .bool false, .tuple #[.agg (cel zeros).toArray, .bool false], .pointer (some ⟨s, 0, none⟩), .pointer (some ⟨s, 0, none⟩), .pointer (some ⟨s, 1, none⟩), .map (some u), .int .i64 i, .tuple #[.agg (cel zeros).toArray, .bool false], .agg (cel zeros).toArray, .bool false, .bool false, undef,
        .pointer (some ⟨s, 0, none⟩), .pointer (some ⟨s, 0, none⟩), .pointer (some ⟨s, 2, none⟩), .slice ad ms.length cap, .func (.func 65) #[] #[.pointer (some ⟨W.heap.size, 0, none⟩)], .int .i64 ((ms.length - 1 - x_ : Nat) : Int), .map (some (ms.getD (ms.length - 1 - x_) 0)),
        undef, undef, undef, undef, undef, undef, undef, undef, undef, undef, undef, undef, undef, undef, undef, undef, undef], defers := [] }) ?assign ?body ?done ?stop
    case assign =>
      intro l' x W' K' hK'
      unfold backA
      generalize ms.getD (ms.length - 1 - x) 0 = mx at *
      gi_wp2
      exact hK'
    case body =>
      rintro l' pre x W' ⟨hno, hfj⟩ hlt
      have hK0 : ms.length - 1 - x < ms.length := by omega
      have hfs := hfj.size
      obtain ⟨hmx, hmn⟩ := HM.out (ms.length - 1 - x) hK0
      have hmW := hmx.keep (HFW0.out.trans (hfj.mono (by simp))) (by simpa using hmn)
      have hci := box_cell (hfj.keep HBI0.out (by simp))
      have hb4 := hfj.keep HB40.out (by simp)
      have hb5 := hfj.keep HB50.out (by simp)
      have hz := Try.zeroB
      obtain ⟨D, hD⟩ : ∃ D, Cs.getD (ms.length - 1 - x) (fun _ => none) = D := ⟨_, rfl⟩
      rw [hD] at hmW
      generalize ms.getD (ms.length - 1 - x) 0 = mx at *
      have hlk := run_lookup_i (P := Try.prog) hmW.map Try.underlying85 Try.underlying3 (Try.zeroWS2 W') (i := (i : Int))
      dsimp only
      cases hDi : D i with
      | none =>
        rw [hDi] at hlk
        have hl1 : (Instr.lookup 85 (.map (some mx)) (.int .i64 (i : Int)) true).run Try.prog W' = .ok (.tuple #[.agg (cel zeros).toArray, .bool false]) W' := hlk
        have hst : (storeCells ⟨W'.heap.size, 0, none⟩ (cel zeros) 0).run Try.prog (W'.alloc (.cells (cel zeros).toArray 82)) = .ok () (W'.alloc (.cells (cel zeros).toArray 82)) :=
          run_storeCells_new (P := Try.prog) W' 82 (cel zeros).toArray (cel zeros).toArray (by simp [Try.sizeWS, HCL.out]) (by simp [HCL.out, zeros, cel_length]) (all_oneCell_toArray (cel_one zeros))
        have hcl := HCL.out
        have hF1 : Fr [] W' (W'.alloc (.cells (cel zeros).toArray 82)) := (Fr.refl [] W').alloc _
        have HF1' := Lib.hid hF1; have HFJ := Lib.hid hfj; have HNO := Lib.hid hno
        clear hlk hF1 hfj hno hmW hmx hb4 hb5
        gi_wp2_with fail
        refine ⟨keepsFrom_fr HF1'.out (by simp), Two.of_fr HF1'.out (by simp; omega) (by simp; omega), ?_, HFJ.out.trans HF1'.out⟩
        intro y hy
        rcases List.mem_append.1 hy with h | h
        · exact HNO.out y h
        · obtain rfl : y = x := by simpa using h
          rw [hD, hDi]
      | some t =>
        rw [hDi] at hlk
        have hclt : (cel t).length = 64 := by rw [cel_length]; exact (hmW.dom i t hDi).2.2
        have hl1 : (Instr.lookup 85 (.map (some mx)) (.int .i64 (i : Int)) true).run Try.prog W' = .ok (.tuple #[.agg (cel t).toArray, .bool true]) W' := hlk
        have hst : (storeCells ⟨W'.heap.size, 0, none⟩ (cel t) 0).run Try.prog (W'.alloc (.cells (cel zeros).toArray 82)) = .ok () (W'.alloc (.cells (cel t).toArray 82)) :=
          run_storeCells_new (P := Try.prog) W' 82 (cel zeros).toArray (cel t).toArray (by simp [Try.sizeWS, hclt]) (by simp [hclt, zeros, cel_length]) (all_oneCell_toArray (cel_one t))
        have hF1 : Fr [] W' (W'.alloc (.cells (cel t).toArray 82)) := (Fr.refl [] W').alloc _
        have hB1 : (W'.alloc (.cells (cel t).toArray 82)).heap[W'.heap.size]? = some (.cells (cel t).toArray 82 (0, 0)) := heap_alloc_new W' _
        have hb41 := hF1.keep hb4 (by simp)
        have hb51 := hF1.keep hb5 (by simp)
        have hc4 := box_cell hb41; have hf4 := box_free hb41
        have hb5' := mid5 hb51 (.slice (some ⟨W'.heap.size, 0, none⟩) 64 64)
        have hc5 := box_cell hb5'; have hf5 := box_free hb5'
        obtain ⟨_, _, hone⟩ := told_of hb41 hb51 (.slice (some ⟨W'.heap.size, 0, none⟩) 64 64) 0
        obtain ⟨hh4, hh5⟩ := told_heap hb41 hb51 (.slice (some ⟨W'.heap.size, 0, none⟩) 64 64) 0
        have hs1 := hF1.size
        have hso := hone.size
        have hsa : (W'.alloc (.cells (cel t).toArray 82)).heap.size = W'.heap.size + 1 := by simp
        have hFF : Fr [w.heap.size + 1, w.heap.size + 1 + 1] W' (((W'.alloc (.cells (cel t).toArray 82)).setCell ⟨w.heap.size + 1, 0, none⟩ (.slice (some ⟨W'.heap.size, 0, none⟩) 64 64)).setCell ⟨w.heap.size + 1 + 1, 0, none⟩ (.int .i64 0)) := (hF1.mono (by simp)).trans hone
        have HHB := Lib.hid (hone.keep hB1 (by simp; omega)); have HFF := Lib.hid hFF; have HH4 := Lib.hid hh4; have HH5 := Lib.hid hh5; have HFJ := Lib.hid hfj; have HNO := Lib.hid hno; have HSO := Lib.hid hso
        have hcl2 := hclt
        clear hlk hF1 hfj hno hmW hmx hb4 hb5 hb41 hb51 hb5' hone hh4 hh5 hFF hB1 hso hs1
        gi_wp2_with fail
        refine ⟨keepsFrom_fr HFF.out (by simp; omega), pre, x, t, W'.heap.size, rfl, rfl, HNO.out, by rw [hD, hDi], HH4.out, HH5.out, HHB.out, hcl2, by omega, by have := HSO.out; omega, (HFJ.out.mono (by simp)).trans HFF.out⟩
    case done =>
      rintro D xs W' hDD rfl ⟨hno, hfj⟩ hK'
      have hmiss : overL Cs i = none := overL_miss Cs i (fun y hy => by rw [← HLEN.out] at hy ⊢; exact hno y (by simpa using hy))
      have hfs := hfj.size
      have hci := box_cell (hfj.keep HBI0.out (by simp))
      have hcs := box_cell (hfj.keep HS0.out (by simp))
      have hb4 := hfj.keep HB40.out (by simp)
      have hb5 := hfj.keep HB50.out (by simp)
      have hsj := hfj.keep HS0.out (by simp)
      have hdj := HD0.out.keep hfj (by simp) (by simp) (by simp)
      have htl : (v.text (300 + i)).length = 64 := by rw [Dv.text_len hdj (by omega), HV.out]; rfl
      have hrd := dread_calls W'.drew p l m n q b v (hdj.keep (Fr.refl [] W').drew (by simp) (by simp) (by simp)) hb (300 + i) (by omega)
      rw [htl, show v.read (300 + i) = (0, ⟨v.c + 1, v.f, v.d, v.ls, v.wt⟩) by unfold Dv.read; rw [HV.out]; rfl, show ((300 + i : Nat) : Int) = 300 + (i : Int) by omega] at hrd
      have hrd2 : Calls Try.prog 48 #[.pointer (some ⟨p, 0, none⟩), .int .i64 (300 + (i : Int))] W'.drew fun e w' => ∃ gx capx cur tx, e = .returned (.tuple #[.slice (some ⟨gx, 0, none⟩) 64 capx, .int .i64 0]) ∧ Fr [p] W'.drew w' ∧ DvAt w' p l m n q (b + 1) ⟨v.c + 1, v.f, v.d, v.ls, v.wt⟩ ∧
          W'.heap.size ≤ gx ∧ w'.heap[gx]? = some (.cells cur tx (0, 0)) ∧ 64 ≤ capx ∧ cur.toList.take 64 = cel (v.text (300 + i)) := by
        refine hrd.mono ?_
        rintro e w' ⟨x, rfl, hf, hd, ho⟩
        obtain ⟨gx, capx, cur, tx, rfl, h1, h2, h3, h4⟩ := Bytes64.of_own ho
        exact ⟨gx, capx, cur, tx, rfl, hf, hd, h1, h2, h3, h4⟩
      have w3 : IntKind.i64.wrap (300 + (i : Int)) = 300 + (i : Int) := IntWalk.i64_in _ (by omega)
      have HRD := Lib.hid hrd2; have HB4' := Lib.hid hb4; have HB5' := Lib.hid hb5; have HSJ := Lib.hid hsj; have HFJ := Lib.hid hfj; have HMI := Lib.hid hmiss; have HKD := Lib.hid hK'
      have hlp := HDW.out.lts
      have hlu2 := HU.out.map.lt
      have hl4 := lt_of_heap HB40.out
      clear hrd hrd2 hb4 hb5 hsj hfj hdj hmiss hno hK' htl
      go_wp2_with fail
      refine wp_calmed ?_
      go_region_with (go_at_call 48; refine HRD.out.mono ?_; rintro e w4 ⟨gx, capx, cur, tx, rfl, hf4, hd4, hgx, hbx, hcx, htx⟩; have hf4' := (Fr.refl [p] W').drew.trans hf4; have hb44 := hf4'.keep HB4'.out (by simp; omega); have hb54 := hf4'.keep HB5'.out (by simp; omega); have hc4 := box_cell hb44; have hfr4 := box_free hb44; have hb55 := mid5 hb54 (.slice (some ⟨gx, 0, none⟩) 64 capx); have hc5 := box_cell hb55; have hfr5 := box_free hb55)
      all_goals
        simp only [Exit.calmed]
        obtain ⟨hz4, hz5, hone⟩ := told_of hb44 hb54 (.slice (some ⟨gx, 0, none⟩) 64 capx) 0
        obtain ⟨hh4, hh5⟩ := told_heap hb44 hb54 (.slice (some ⟨gx, 0, none⟩) 64 capx) 0
        have hs4 := hf4'.size
        have hlt5 := lt_of_heap HB50.out
        have hsF := hone.keep (hf4'.keep HSJ.out (by simp; omega)) (by simp; omega)
        have hdF := hd4.keep hone (by simp; omega) (by simp; omega) (by simp; omega)
        have hbF := hone.keep hbx (by simp; omega)
        have hkF := hone.keep (hf4'.keep HKD.out (by simp; omega)) (by simp; omega)
        have hFF := ((HFW0.out.trans (HFJ.out.mono (by simp))).mono (l' := [s, p]) (by simp)).trans (hf4'.mono (l' := [s, p]) (by simp))
        have hFF2 := hFF.trans_new hone (by intro x hx; simp at hx ⊢; omega)
        have hso := hone.size
        obtain ⟨WZ, hWZ⟩ : ∃ WZ, (w4.setCell ⟨w.heap.size + 1, 0, none⟩ (.slice (some ⟨gx, 0, none⟩) 64 capx)).setCell ⟨w.heap.size + 1 + 1, 0, none⟩ (.int .i64 0) = WZ := ⟨_, rfl⟩
        rw [hWZ] at hsF hdF hbF hkF hFF2 hh4 hh5 hso
        have hfD : Fr [D] WZ (WZ.putObj D (.deferred none)) := Fr.of_grown (grownBy_putObj' WZ D (.deferred none))
        have hbD : gx ≠ D := fun h => by subst h; rw [hbF] at hkF; cases hkF
        have hc4F := box_cell (hfD.keep hh4 (by simp; omega))
        have hc5F := box_cell (hfD.keep hh5 (by simp; omega))
        have HSF := Lib.hid (hfD.keep hsF (by simp; omega)); have HDF := Lib.hid (hdF.keep hfD (by simp; omega) (by simp; omega) (by simp; omega)); have HBF := Lib.hid (hfD.keep hbF (by simpa using hbD)); have HFF := Lib.hid (hFF2.trans_new hfD (by intro x hx; simp at hx ⊢; omega)); have HKF := Lib.hid hkF; have HWZ := Lib.hid hWZ; have HC4 := Lib.hid hc4F; have HC5 := Lib.hid hc5F
        clear hz4 hz5 hone hh4 hh5 hsF hdF hbF hkF hFF hFF2 hWZ hfD hc4F hc5F hb44 hb54 hb55 hf4 hf4' hd4 hbx hc4 hc5 hfr4 hfr5 hso
        go_wp2_with fail
        rw [HWZ.out]
        refine ⟨by simp, .inl ⟨_, _, rfl, run_takeDeferred HKF.out, ?_⟩⟩
        refine ⟨.tuple #[.slice (some ⟨gx, 0, none⟩) 64 capx, .int .i64 0], ?_, _, v.c + 1, rfl, HFF.out, HSF.out, HDF.out, ?_⟩
        · have hc4 := HC4.out
          have hc5 := HC5.out
          simp [results, Try.f20, go_sem, hc4, hc5]
        · rw [HMI.out]
          exact ⟨gx, capx, _, _, rfl, by omega, HBF.out, hcx, htx⟩
    case stop =>
      rintro D c pre W' hDD ⟨k1, hk1, hpk⟩ ⟨pre', x, t, gb, rfl, hpe, hno, hD, hh4, hh5, hbb, hclt, hgb, hgb2, hfj⟩ hK'
      have hx : x < ms.length ∧ pre' = List.range x := by
        rw [hpe] at hpk
        have hl : pre'.length + 1 = k1 := by have := congrArg List.length hpk; simpa using this
        have h2 : List.range k1 = List.range pre'.length ++ [pre'.length] := by rw [← hl, List.range_succ]
        rw [h2] at hpk
        have h3 := List.append_inj hpk (by simp)
        have h4 : x = pre'.length := by simpa using h3.2
        exact ⟨by omega, by rw [h4]; exact h3.1⟩
      have hhit : overL Cs i = some t := overL_hit Cs i x (by rw [← HLEN.out]; exact hx.1) (fun y hy => by rw [← HLEN.out]; exact hno y (by rw [hx.2]; simpa using hy)) (by rw [← HLEN.out]; exact hD)
      have hfs := hfj.size
      have hlp := HDW.out.lts
      have hlu2 := HU.out.map.lt
      have hl4 := lt_of_heap HB40.out
      have hfD : Fr [D] W' (W'.putObj D (.deferred none)) := Fr.of_grown (grownBy_putObj' W' D (.deferred none))
      have hc4 := box_cell (hfD.keep hh4 (by simp; omega))
      have hc5 := box_cell (hfD.keep hh5 (by simp; omega))
      have hbD : gb ≠ D := fun h => by subst h; rw [hbb] at hK'; cases hK'
      have hbF := hfD.keep hbb (by simpa using hbD)
      have hsF := hfD.keep (hfj.keep HS0.out (by simp; omega)) (by simp; omega)
      have hdF := (HD0.out.keep hfj (by simp; omega) (by simp; omega) (by simp; omega)).keep hfD (by simp; omega) (by simp; omega) (by simp; omega)
      have hFF := (HFW0.out.trans_new hfj (by intro x hx; simp at hx ⊢; omega)).trans_new hfD (by intro x hx; simp at hx ⊢; omega)
      have HFF := Lib.hid hFF; have HDF := Lib.hid hdF; have HSF := Lib.hid hsF; have HBF := Lib.hid hbF; have HC4 := Lib.hid hc4; have HC5 := Lib.hid hc5; have HKD := Lib.hid hK'; have HHIT := Lib.hid hhit
      clear hfD hc4 hc5 hFF hdF hsF hbF hK' hhit hh4 hh5 hbb hfj hno
      gi_wp2
      refine ⟨by simp, .inl ⟨_, _, rfl, run_takeDeferred HKD.out, ?_⟩⟩
      refine ⟨.tuple #[.slice (some ⟨gb, 0, none⟩) 64 64, .int .i64 0], ?_, _, v.c, rfl, HFF.out.mono (by simp), HSF.out, HDF.out.more (by omega), ?_⟩
      · have hc4 := HC4.out
        have hc5 := HC5.out
        simp [results, Try.f20, go_sem, hc4, hc5]
      · rw [HHIT.out]
        exact ⟨gb, 64, _, _, rfl, by omega, HBF.out, by omega, List.take_of_length_le (Nat.le_of_eq hclt)⟩
end Go.Proofs.Ytoifpbifipgpkaa
