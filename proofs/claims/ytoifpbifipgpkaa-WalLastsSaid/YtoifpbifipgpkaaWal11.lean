/-
  wal: a change that is full.
-/
import Derived.Test.YtoifpbifipgpkaaWal10
namespace Go.Proofs.Ytoifpbifipgpkaa
open Go.RowKit Go.MapKept
set_option maxRecDepth 100000 in
set_option maxHeartbeats 2000000 in
theorem swrite_big (w : World) (s p u l m n q : Nat) (wv : Value) (all last : Int) (b : Int) (v : Dv) (U : Int → Option (List UInt8)) (K : Nat) (hs : StoreBox w s p u wv all last false) (hd : DvAt w p l m n q b v) (hv : v.d = false) (hU : ChAt w u n U) (hK : Card U K)
    (hsu : s ≠ u) (hps : s ≠ p ∧ s ≠ l ∧ s ≠ m ∧ u ≠ p ∧ u ≠ l ∧ u ≠ m) (i : Int) (hi : 0 ≤ i ∧ i + 300 < n) (g o cap : Nat) (x : List UInt8) (hx : x.length = 64) (hr : w.rangeAt g o (cel x)) (hg : g ≠ s ∧ g ≠ u) (hUi : U i = none) (hK128 : K = 128) :
    Calls Try.prog 13 #[.pointer (some ⟨s, 0, none⟩), .int .i64 i, .slice (some ⟨g, o, none⟩) 64 cap] w fun e w' => e = .returned (.int .i64 5) ∧ Fr [s] w w' ∧ StoreBox w' s p u wv all last false := by
  have H1 := Lib.hid (died_calls w s p u wv all last false hs l m n q b v hd)
  rw [hv] at H1
  have hri : roomI n = (n : Int) - 300 := by unfold roomI; rw [if_neg (by omega)]
  have HX := Lib.hid hx; have HD := Lib.hid hd; have HU := Lib.hid hU; have HR := Lib.hid hr; have HK := Lib.hid hK
  have hlu := hU.map.lt
  clear hs hd hU hr hx hv hK
  go_enter Try.func13, Try.ntmps13
  go_wp2_with fail
  refine H1.out.mono ?_
  rintro e w1 ⟨rfl, hf1, hs1⟩
  have hd1 := HD.out.keep hf1 (by simp; omega) (by simp; omega) (by simp; omega)
  have hh := shas_calls w1 s p u wv all last false hs1 l m n q b v hd1 i
  rw [hri, show (decide (0 ≤ i) && decide (i < (n : Int) - 300)) = true by simp; omega] at hh
  have hU1 := HU.out.keep hf1 (by simp; omega)
  have hr1 : w1.rangeAt g o (cel x) := fun j y hy => by
    have := HR.out j y hy
    rw [World.cell?_of_block (w := w) (hf1.block g (World.block_lt_of_cell? _ _ this) (by simp; omega))]; exact this
  have HH := Lib.hid hh; have HS1 := Lib.hid hs1; have HU1 := Lib.hid hU1; have HR1 := Lib.hid hr1; have HF1 := Lib.hid hf1
  clear hd1 hh hs1 hU1 hr1 hf1 H1 HD HU HR
  go_wp2_with fail
  refine HH.out.mono ?_
  rintro e w2 ⟨rfl, rfl⟩
  clear HH
  have hc := box_cell HS1.out
  obtain ⟨es, clk, hb, hh⟩ := HU1.out.map
  have hes : es.size = K := (Card.of hh).one HK.out
  have hz64 : (cel zeros).length = 64 := by rw [cel_length]; rfl
  have hne : (es.size : Int) = 128 := by omega
  have hzl : ((cel zeros).toArray).size = 64 := by simp [cel]; rfl
  have hw3 : Fr [] w1 (w1.alloc (.cells (cel zeros).toArray 82)) := (Fr.refl [] w1).alloc _
  have hb3 : (w1.alloc (.cells (cel zeros).toArray 82)).heap[u]? = some (.map es clk) := hw3.keep hb (by simp)
  have hrl := fun ty => run_len_map (P := Try.prog) (w := w1.alloc (.cells (cel zeros).toArray 82)) 85 ty u es clk (by kernel_rfl) hb3
  have hs3 : StoreBox (w1.alloc (.cells (cel zeros).toArray 82)) s p u wv all last false := hw3.keep HS1.out (by simp)
  have hc3 := box_cell hs3
  go_wp2_with (first
    | (at_lookup; refine wL_lookup rfl _ _ 85 rfl 3 82 Try.underlying85 Try.underlying3 _ Try.zeroWS2 u rfl i rfl _ HU1.out.map (none) (by simp [hUi]) ?_)
    | (refine wL_allocW (o := ⟨some 7, .alloc 82, _, _, _, _⟩) rfl 82 rfl _ Try.zeroWS ?_)
    | (refine wL_storeNew (o := ⟨none, .store 82 _ _, _, _, _, _⟩) rfl 82 _ _ rfl _ _ rfl ?c0 _ rfl _ ?c1 ?c2 ?c3 ?_)
    | fail)
  case c0 => simp
  case c1 => rw [Try.sizeWS]; exact congrArg some hzl.symm
  case c2 => rw [zcells_size]; exact hzl.symm
  case c3 => exact all_oneCell_toArray (cel_one _)
  go_wp2_with fail
  go_ret
  exact ⟨rfl, (HF1.out.trans (hw3.mono (by simp))), hs3⟩
end Go.Proofs.Ytoifpbifipgpkaa
