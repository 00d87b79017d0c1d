/-
  wal: what Read tells.
-/
import Derived.Test.YtoifpbifipgpkaaWal20
namespace Go.Proofs.Ytoifpbifipgpkaa
open Go.RowKit Go.MapKept Go.Shelf
attribute [local go_sem] Oper.semAt_some
/-- 64 bytes in a block of one's own, behind B. -/
def Bytes64 (w : World) (B : Nat) (x : Value) (T : List UInt8) : Prop := ∃ g cap cur t, x = .slice (some ⟨g, 0, none⟩) 64 cap ∧ B ≤ g ∧ w.heap[g]? = some (.cells cur t (0, 0)) ∧ 64 ≤ cap ∧ cur.toList.take 64 = cel T
theorem Bytes64.of_own {w : World} {B : Nat} {x : Value} {T : List UInt8} (h : w.ownsRow B 5 1 x 64 (cel T)) : Bytes64 w B x T := by
  rcases h.2 with ⟨_, h0⟩ | ⟨g, cap, cur, h3, h4, h5, h6, h7, h8, h9⟩
  · omega
  · exact ⟨g, cap, cur, _, h3, h4, h5, by omega, by simpa using h9⟩
/-- What a store tells of sector i. -/
def tellAt (v : Dv) (Cu : Int → Option (List UInt8)) (Cs : List (Int → Option (List UInt8))) (i : Nat) : List UInt8 := ((Cu i).or (overL Cs i)).getD (v.text (300 + i))
set_option maxRecDepth 100000 in
set_option maxHeartbeats 4000000 in
theorem sread_under (w : World) (s p u l m n q : Nat) (wv : Value) (all last : Int) (b : Int) (v : Dv) (hs : StoreBox w s p u wv all last false) (hd : DvAt w p l m n q b v) (hv : v.d = false) (hps : s ≠ p ∧ s ≠ l ∧ s ≠ m)
    (Cu : Int → Option (List UInt8)) (hU : ChAt w u n Cu) (hus : u ≠ s) (i : Nat) (hi : i + 300 < n) (t : List UInt8) (ht : Cu i = some t) :
    Calls Try.prog 20 #[.pointer (some ⟨s, 0, none⟩), .int .i64 i] w fun e w' => ∃ x, e = .returned (.tuple #[x, .int .i64 0]) ∧ Fr [s] w w' ∧ StoreBox w' s p u wv all last false ∧ Bytes64 w' w.heap.size x t := by
  have hnb := hd.at_.nb
  obtain ⟨wa, hwa⟩ : ∃ wa, ((w.alloc (.cells #[.int .i64 i] 3)).alloc (.cells #[.slice none 0 0] 29)).alloc (.cells #[.int .i64 0] 27) = wa := ⟨_, rfl⟩
  have HWA := Lib.hid hwa
  obtain ⟨hFa, hri, hr4, hr5⟩ := hwa ▸ rboxes w i
  have hls := lt_of_heap hs
  have hlu := hU.map.lt
  have hda := hd.keep hFa (by simp) (by simp) (by simp)
  have HDIE := Lib.hid (died_calls wa s p u wv all last false (hFa.keep hs (by simp)) l m n q b v hda)
  rw [hv] at HDIE
  have h64 := (hU.dom i t ht).2.2
  have hcl : (cel t).length = 64 := by rw [cel_length, h64]
  have HRI := Lib.hid hri; have HR4 := Lib.hid hr4; have HR5 := Lib.hid hr5; have HFA := Lib.hid hFa; have HD := Lib.hid hda; have HU := Lib.hid (hU.keep hFa (by simp)); have HT := Lib.hid ht; have HCL := Lib.hid hcl
  clear hs hd hv hFa hri hr4 hr5 hwa hda hU ht h64 hcl
  refine (callsIn_wide (n := 6)).1 ?_
  refine callsIn_of_wp_marks Try.func20 rfl trivial ?_ rfl
  simp only [Try.ntmps20, List.size_toArray, List.length_cons, List.length_nil, Nat.reduceAdd, Nat.reduceSub, Array.replicate_succ, Array.replicate_zero, List.push_toArray, List.append_toArray, List.nil_append, List.cons_append]
  refine wpIn_wide.2 ?_
  go_wp2_with fail
  rw [HWA.out]
  go_wp2_with fail
  refine HDIE.out.mono ?_
  rintro e w1 ⟨rfl, hf1, hs1⟩
  have hbi := hf1.keep HRI.out (by simp; omega)
  have hb4 := hf1.keep HR4.out (by simp; omega)
  have hb5 := hf1.keep HR5.out (by simp; omega)
  have hci := box_cell hbi
  have hcs := box_cell hs1
  have hha := shas_calls w1 s p u wv all last false hs1 l m n q b v (HD.out.keep hf1 (by simp; omega) (by simp; omega) (by simp; omega)) i
  rw [show (decide ((0 : Int) ≤ (i : Int)) && decide ((i : Int) < roomI n)) = true by unfold roomI; simp; split <;> omega] at hha
  have HHA := Lib.hid hha
  have HU1 := Lib.hid (HU.out.keep hf1 (by simpa using hus))
  have hbi0 := hbi
  have HB4 := Lib.hid hb4; have HB5 := Lib.hid hb5; have HS1 := Lib.hid hs1; have HF1 := Lib.hid hf1
  clear hbi hb4 hb5 hs1 hf1 HDIE hha
  go_wp2_with fail
  refine HHA.out.mono ?_
  rintro e w2 ⟨rfl, rfl⟩
  go_wp2_with fail
  have hlk : ∀ W : World, Fr [] w1 W → (Instr.lookup 85 (.map (some u)) (.int .i64 (i : Int)) true).run Try.prog W = .ok (.tuple #[.agg (cel t).toArray, .bool true]) W := fun W hf => by
    have := run_lookup_i (P := Try.prog) (HU1.out.keep hf (by simp)).map Try.underlying85 Try.underlying3 (Try.zeroWS2 W) (i := (i : Int))
    rw [HT.out] at this
    exact this
  have hA : Fr [] w1 (w1.alloc (.cells (cel zeros).toArray 82)).drew := ((Fr.refl [] w1).alloc _).drew
  have hl2 := hlk _ hA
  have hz := Try.zeroB
  have hci2 := box_cell (hA.keep hbi0 (by simp))
  have hcs2 := box_cell (hA.keep HS1.out (by simp))
  have hst : (storeCells ⟨w1.heap.size, 0, none⟩ (cel t) 0).run Try.prog (w1.alloc (.cells (cel zeros).toArray 82)).drew = .ok () (w1.alloc (.cells (cel t).toArray 82)).drew := 
    run_storeCells_new (P := Try.prog) w1.drew 82 (cel zeros).toArray (cel t).toArray (by simp [Try.sizeWS, HCL.out]) (by simp [HCL.out, zeros, cel_length]) (all_oneCell_toArray (cel_one t))
  have hst2 : (Instr.storeAt 82 (.pointer (some ⟨w1.heap.size, 0, none⟩)) (secV t)).run Try.prog (w1.alloc (.cells (cel zeros).toArray 82)).drew = .ok () (w1.alloc (.cells (cel t).toArray 82)).drew := 
    run_storeAt_new (P := Try.prog) w1.drew 82 (cel zeros).toArray (cel t).toArray (by simp [Try.sizeWS, HCL.out]) (by simp [HCL.out, zeros, cel_length]) (all_oneCell_toArray (cel_one t))
  have hl1 := hlk _ (Fr.refl [] w1).drew
  have hl3 := hlk _ ((Fr.refl [] w1).drew.alloc (.cells (cel zeros).toArray 82))
  have hst3 : (storeCells ⟨w1.heap.size, 0, none⟩ (cel t) 0).run Try.prog (w1.drew.alloc (.cells (cel zeros).toArray 82)) = .ok () (w1.drew.alloc (.cells (cel t).toArray 82)) := hst
  have hcl := HCL.out
  clear hlk hst2
  go_region
  all_goals
    try rw [show w1.drew.alloc (.cells (cel t).toArray 82) = (w1.alloc (.cells (cel t).toArray 82)).drew from rfl]
    have hB : (w1.alloc (.cells (cel t).toArray 82)).drew.heap[w1.heap.size]? = some (.cells (cel t).toArray 82 (0, 0)) := heap_alloc_new w1 _
    have hF : Fr [] w1 (w1.alloc (.cells (cel t).toArray 82)).drew := ((Fr.refl [] w1).alloc _).drew
    generalize (w1.alloc (.cells (cel t).toArray 82)).drew = W at *
    have hb4 := hF.keep HB4.out (by simp)
    have hb5 := hF.keep HB5.out (by simp)
    have hsz := HF1.out.size
    have hszw := HFA.out.size
    have hc4 := box_cell hb4; have hf4 := box_free hb4
    have hb5' := mid5 hb5 (.slice (some ⟨w1.heap.size, 0, none⟩) 64 64)
    have hc5 := box_cell hb5'; have hf5 := box_free hb5'
    obtain ⟨hz4, hz5, hone⟩ := told_of hb4 hb5 (.slice (some ⟨w1.heap.size, 0, none⟩) 64 64) 0
    have hne : w1.heap.size ≠ w.heap.size + 1 ∧ w1.heap.size ≠ w.heap.size + 1 + 1 := by have := lt_of_heap HB4.out; have := lt_of_heap HB5.out; omega
    have HSF := Lib.hid (hone.keep (hF.keep HS1.out (by simp)) (by simp; omega)); have HFF := Lib.hid ((((HFA.out.mono (by simp)).trans HF1.out).trans (hF.mono (by simp))).trans_new hone (by intro x hx; simp at hx ⊢; omega))
    have HBF := Lib.hid (hone.keep hB (by simp; omega))
    clear hone hB hF hb4 hb5 hb5' hst hst3 hl1 hl2 hl3
    go_wp2_with fail
    refine ⟨.tuple #[.slice (some ⟨w1.heap.size, 0, none⟩) 64 64, .int .i64 0], ?_, _, rfl, HFF.out, HSF.out, w1.heap.size, 64, _, _, rfl, by omega, HBF.out, by omega, List.take_of_length_le (Nat.le_of_eq HCL.out)⟩
    simp [results, Try.f20, go_sem, hz4, hz5]
end Go.Proofs.Ytoifpbifipgpkaa
