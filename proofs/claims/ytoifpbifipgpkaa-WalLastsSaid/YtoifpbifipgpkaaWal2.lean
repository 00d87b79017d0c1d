/-
  wal: numbers as a sector.
-/
import Derived.Test.YtoifpbifipgpkaaWal1
namespace Go.Proofs.Ytoifpbifipgpkaa
open Go.RowKit Go.MapKept
theorem drewN_fr0 (w : World) (k : Nat) : Fr [] w (w.drewN k) := ⟨rfl, rfl, rfl, Nat.le_refl _, fun _ _ _ => rfl⟩
theorem row_range {w : World} {B : Nat} {T : TypeId} {v : Value} {n : Nat} {xs : List Value} (h : w.ownsRow B T 1 v n xs) (hn : 0 < n) : ∃ g cap, v = .slice (some ⟨g, 0, none⟩) n cap ∧ B ≤ g ∧ g < w.heap.size ∧ w.rangeAt g 0 xs := by
  obtain ⟨h1, h2⟩ := h
  rcases h2 with ⟨_, h3⟩ | ⟨g, cap, cur, h3, h4, h5, h6, h7, h8, h9⟩
  · subst h3; simp at h1; omega
  · refine ⟨g, cap, h3, h4, lt_of_heap h5, fun j v hv => ?_⟩
    rw [box_cell h5, Nat.zero_add]
    have : (cur.toList.take (n * 1))[j]? = some v := by rw [h9]; exact hv
    rw [List.getElem?_take] at this
    split at this
    · simpa using this
    · cases this
def byteI (x : Int) : UInt8 := UInt8.ofNat (x % 256).toNat
theorem byteI_toNat (x : Int) : ((byteI x).toNat : Int) = x % 256 := by
  unfold byteI
  rw [UInt8.toNat_ofNat']
  omega
/-- The first k numbers, two bytes each, and noughts. -/
def asK (zs : List Int) (k : Nat) : List UInt8 := (List.range 64).map fun j => if j / 2 < k then (if j % 2 = 0 then byteI (zs.getD (j / 2) 0) else byteI (zs.getD (j / 2) 0 / 256)) else 0
theorem asK_length (zs : List Int) (k : Nat) : (asK zs k).length = 64 := by simp [asK]
theorem asK_zero (zs : List Int) : asK zs 0 = zeros := by
  have h : asK zs 0 = List.replicate 64 0 := by
    unfold asK
    apply List.ext_getElem?
    intro j
    rw [List.getElem?_replicate, List.getElem?_map]
    by_cases hj : j < 64
    · rw [if_pos hj, List.getElem?_range hj]; simp
    · rw [if_neg hj, List.getElem?_eq_none (by simp; omega)]; rfl
  rw [h]; rfl
theorem asK_step (zs : List Int) (k : Nat) (hk : k < 32) : ((asK zs k).set (2 * k) (byteI (zs.getD k 0))).set (2 * k + 1) (byteI (zs.getD k 0 / 256)) = asK zs (k + 1) := by
  apply List.ext_getElem?
  intro j
  by_cases h1 : j = 2 * k + 1
  · subst h1
    rw [List.getElem?_set_self (by simp [asK_length]; omega)]
    have e1 : (2 * k + 1) / 2 = k := by omega
    have e2 : (2 * k + 1) % 2 ≠ 0 := by omega
    have e3 : 2 * k + 1 < 64 := by omega
    simp [asK, e1, e2, e3]
  · rw [List.getElem?_set_ne (by omega)]
    by_cases h2 : j = 2 * k
    · subst h2
      rw [List.getElem?_set_self (by simp [asK_length]; omega)]
      have e1 : 2 * k / 2 = k := by omega
      have e2 : 2 * k % 2 = 0 := by omega
      have e3 : 2 * k < 64 := by omega
      simp [asK, e1, e2, e3]
    · rw [List.getElem?_set_ne (by omega)]
      by_cases hj : j < 64
      · have e : (j / 2 < k) = (j / 2 < k + 1) := by apply propext; omega
        simp [asK, hj, e]
      · simp [asK, hj]
theorem cel_set (l : List UInt8) (i : Nat) (b : UInt8) : (cel l).toArray.setIfInBounds i (.int .u8 b.toNat) = (cel (l.set i b)).toArray := by
  apply Array.ext_getElem?
  intro j
  by_cases h : j = i
  · subst h
    by_cases hj : j < l.length
    · simp [cel, Array.getElem?_setIfInBounds_self, hj]
    · simp [cel, Array.getElem?_setIfInBounds_self, hj]
  · rw [Array.getElem?_setIfInBounds_ne (by omega)]
    simp [cel, List.getElem?_set_ne (Ne.symm h)]
/-- Ints that read. -/
def RI (w : World) (ad : Option Addr) (zs : List Int) : Prop := 0 < zs.length → ∃ b off, ad = some ⟨b, off, none⟩ ∧ ∀ j, j < zs.length → w.cell? ⟨b, off + j, none⟩ = some (.int .i64 (zs.getD j 0))
theorem RI.keep {w w' : World} {ad : Option Addr} {zs : List Int} (h : RI w ad zs) (hf : Fr [] w w') : RI w' ad zs := fun h0 => by
  obtain ⟨b, off, e, hc⟩ := h h0
  refine ⟨b, off, e, fun j hj => ?_⟩
  have := hc j hj
  rw [World.cell?_of_block (w := w) (hf.block b (World.block_lt_of_cell? _ _ this) (by simp))]; exact this
theorem Try.zeroWS (w : World) : (zeroValue 82).run Try.prog w = .ok (.agg zcells) w := by kernel_rfl
theorem Try.sizeWS : (Try.prog.info? 82).map (·.size) = some 64 := by kernel_rfl
set_option maxRecDepth 100000 in
set_option maxHeartbeats 2000000 in
theorem asSector_calls (w : World) (ad : Option Addr) (cap : Nat) (zs : List Int) (hr : RI w ad zs) (hl : zs.length ≤ 32) :
    Calls Try.prog 72 #[.slice ad zs.length cap] w fun e w' => e = .returned (secV (asK zs zs.length)) ∧ Fr [] w w' := by
  have HR := Lib.hid hr
  obtain ⟨K, hK⟩ : ∃ K, zs.length = K := ⟨_, rfl⟩
  have HK := Lib.hid hK
  rw [hK] at hl ⊢
  have hS0 : ((w.alloc (.cells zcells 82)).alloc (.cells zcells 82)).heap[w.heap.size]? = some (.cells zcells 82 (0, 0)) := ((Fr.refl [] _).alloc _).keep (heap_alloc_new w _) (by simp)
  have hS1 : ((w.alloc (.cells zcells 82)).alloc (.cells zcells 82)).heap[w.heap.size + 1]? = some (.cells (cel (asK zs 0)).toArray 82 (0, 0)) := by
    rw [asK_zero]
    have := heap_alloc_new (w.alloc (.cells zcells 82)) (.cells zcells 82)
    rw [show (w.alloc (.cells zcells 82)).heap.size = w.heap.size + 1 by simp] at this
    rw [this]; rfl
  have hF0 : Fr [] w ((w.alloc (.cells zcells 82)).alloc (.cells zcells 82)) := ((Fr.refl [] w).alloc _).alloc _
  have HS0 := Lib.hid hS0; have HS1 := Lib.hid hS1; have HF0 := Lib.hid hF0
  have HZS : Hid ((Try.prog.info? 82).map (·.size) = some zcells.size) := Lib.hid (by rw [zcells_size]; exact Try.sizeWS)
  have hzz : zcells.size = 64 := zcells_size
  have HZZ := Lib.hid hzz
  obtain ⟨Z, hZ⟩ : ∃ Z, zcells = Z := ⟨_, rfl⟩
  have HZ0 : Hid (∀ w : World, (zeroValue 82).run Try.prog w = .ok (.agg Z) w) := Lib.hid (by rw [← hZ]; exact Try.zeroWS)
  rw [hZ] at HS0 HS1 HF0 HZS HZZ
  clear hr hK hS0 hS1 hF0 hzz hZ
  go_enter Try.func72, Try.ntmps72
  go_wp2_with (first
    | ((with_reducible_and_instances refine id (α := wpList _ _ _ (⟨some 2, .alloc 82, _, _, _, _⟩ :: _) _ _) ?_); refine wL_allocW rfl 82 rfl _ HZ0.out ?_)
    | ((with_reducible_and_instances refine id (α := wpList _ _ _ (⟨some 3, .alloc 82, _, _, _, _⟩ :: _) _ _) ?_); refine wL_allocW rfl 82 rfl _ HZ0.out ?_)
    | fail)
  go_loopw [8] (fun v8 wr => ∃ k : Nat, k ≤ K ∧ v8 = .int .i64 k ∧ wr.heap[w.heap.size]? = some (.cells Z 82 (0, 0)) ∧ wr.heap[w.heap.size + 1]? = some (.cells (cel (asK zs k)).toArray 82 (0, 0)) ∧ Fr [] w wr) (fun v8 _ => K - (intOf v8).toNat)
  case atStart => exact ⟨0, by omega, rfl, HS0.out, HS1.out, HF0.out⟩
  case round =>
    clear HS0 HS1 HF0
    rename World => wr
    obtain ⟨k, hk, rfl, h0, h1, hf⟩ := hrel
    by_cases hlt : k < K
    · have hlt' : (k : Int) < (K : Int) := by omega
      obtain ⟨b, off, rfl, hc⟩ := (HR.out.keep hf) (by rw [HK.out]; omega)
      have hck := hc k (by rw [HK.out]; exact hlt)
      have hst := asK_step zs k (by omega)
      have hlen := asK_length zs k
      generalize zs.getD k 0 = z at *
      generalize asK zs k = A at *
      have e0 := byteI_toNat z
      have e1 := byteI_toNat (z / 256)
      have hs1 := box_set h1 (2 * k) (.int .u8 (byteI z).toNat)
      rw [cel_set] at hs1
      have hs2 := box_set hs1 (2 * k + 1) (.int .u8 (byteI (z / 256)).toNat)
      rw [cel_set, hst] at hs2
      have q0 : wr.cell? ⟨w.heap.size + 1, 2 * k, none⟩ = some (.int .u8 (A.getD (2 * k) 0).toNat) := by rw [box_cell h1, List.getElem?_toArray, cel_get]; simp [show 2 * k < A.length by omega]
      have q1 : (wr.setCell ⟨w.heap.size + 1, 2 * k, none⟩ (.int .u8 (byteI z).toNat)).cell? ⟨w.heap.size + 1, 2 * k + 1, none⟩ = some (.int .u8 ((A.set (2 * k) (byteI z)).getD (2 * k + 1) 0).toNat) := by rw [box_cell hs1, List.getElem?_toArray, cel_get]; simp [show 2 * k + 1 < A.length by omega]
      have z0 := box_free h1 (2 * k)
      have z1 := box_free hs1 (2 * k + 1)
      have hfz : Fr [] w ((wr.setCell ⟨w.heap.size + 1, 2 * k, none⟩ (.int .u8 (byteI z).toNat)).setCell ⟨w.heap.size + 1, 2 * k + 1, none⟩ (.int .u8 (byteI (z / 256)).toNat)) := (hf.setCell (.inr (by simp)) _).setCell (.inr (by simp)) _
      have h0z : ((wr.setCell ⟨w.heap.size + 1, 2 * k, none⟩ (.int .u8 (byteI z).toNat)).setCell ⟨w.heap.size + 1, 2 * k + 1, none⟩ (.int .u8 (byteI (z / 256)).toNat)).heap[w.heap.size]? = some (.cells Z 82 (0, 0)) := by
        rw [heap_set_other (by simp), heap_set_other (by simp)]; exact h0
      rw [e0, e1] at hs2 hfz h0z
      rw [e0] at q1 z1 hs1
      have H2 := Lib.hid hs2; have HFZ := Lib.hid hfz; have H0Z := Lib.hid h0z
      have i0 : (2 * (k : Int)).toNat = 2 * k := by omega
      have i1 : (2 * (k : Int) + 1).toNat = 2 * k + 1 := by omega
      have i2 : (0 : Int) ≤ 2 * (k : Int) := by omega
      have i3 : 2 * (k : Int) < 64 := by omega
      have i4 : (0 : Int) ≤ 2 * (k : Int) + 1 := by omega
      have i5 : 2 * (k : Int) + 1 < 64 := by omega
      have i6 : (0 : Int) ≤ (k : Int) := by omega
      have i7 : IntKind.i64.wrap (2 * (k : Int)) = 2 * (k : Int) := IntWalk.i64_in _ (by omega)
      have i8 : IntKind.i64.wrap (2 * (k : Int) + 1) = 2 * (k : Int) + 1 := IntWalk.i64_in _ (by omega)
      have hu := Try.underlying82
      clear h0 h1 hf hc hst hs1 hs2 hfz h0z e0 e1
      go_wp2_with fail
      go_roundw
      case rel => exact ⟨k + 1, by omega, by go_num, H0Z.out, H2.out, HFZ.out⟩
      case measure => simp [intOf]; omega
    · obtain rfl : k = K := by omega
      have hfin := h1
      have H1 := Lib.hid h1; have HF := Lib.hid hf; have H0 := Lib.hid h0
      have hzl : (cel (asK zs k)).toArray.size = 64 := by simp [cel, asK_length]
      obtain ⟨cs, hcs⟩ : ∃ cs, (cel (asK zs k)).toArray = cs := ⟨_, rfl⟩
      have hall : cs.all (·.oneCell') = true := by rw [← hcs]; exact all_oneCell_toArray (cel_one _)
      rw [hcs] at H1 hzl
      have HI : Hid ((Try.prog.info? 82).map (·.size) = some cs.size) := Lib.hid (by rw [hzl]; exact Try.sizeWS)
      have HSZ : Hid (Z.size = cs.size) := Lib.hid (by rw [hzl, HZZ.out])
      have HCS := Lib.hid hcs; have HALL := Lib.hid hall
      clear hfin h0 h1 hf hzl hcs hall
      go_wp2_with (first
        | ((with_reducible_and_instances refine id (α := wpList _ _ _ (⟨some 26, .load 82 (.tmp 3), _, _, _, _⟩ :: _) _ _) ?_); refine wpList_load_row rfl 82 (.tmp 3) rfl (w.heap.size + 1) rfl 82 cs (0, 0) _ H1.out Try.underlying82 rfl HI.out ?_)
        | ((with_reducible_and_instances refine id (α := wpList _ _ _ (⟨none, .store 82 (.tmp 2) (.tmp 26), _, _, _, _⟩ :: _) _ _) ?_); refine wL_storeW rfl 82 (.tmp 2) (.tmp 26) rfl w.heap.size rfl cs rfl 82 Z H0.out HI.out HSZ.out HALL.out ?_)
        | fail)
      have hR : (wr.setRow w.heap.size cs).heap[w.heap.size]? = some (.cells cs 82 (0, 0)) := setRow_heap _ _ _ _ _ _ H0.out
      have hFR : Fr [] w (wr.setRow w.heap.size cs) := HF.out.setRow (.inr (Nat.le_refl _))
      exact bodyPost_ret (results_cell_row rfl _ _ w.heap.size 82 cs (0, 0) _ rfl hR Try.underlying82 rfl HI.out) rfl ⟨by rw [← HCS.out]; rfl, hFR⟩
end Go.Proofs.Ytoifpbifipgpkaa
