/-
  wal: Commit, where what waits is settled first.
-/
import Derived.Test.YtoifpbifipgpkaaWal22
import Derived.Test.YtoifpbifipgpkaaWal18
import Derived.Test.YtoifpbifipgpkaaWal12
namespace Go.Proofs.Ytoifpbifipgpkaa
open Go.RowKit Go.MapKept
/-- A Commit that settles, of a change that has sectors. -/
def CrowdFull (w : World) (s p u l m n q : Nat) (all last : Int) (b : Int) (v : Dv) (B : Nat) (C : Int → Option (List UInt8)) (e : Ending) (w' : World) : Prop :=
  ∃ kk, KeysOf C kk ∧ e = .returned (.int .i64 (v.settle C kk all last).1) ∧
    ((v.settle C kk all last).1 ≠ 0 → ∃ u', w.heap.size ≤ u' ∧ IMap w' u' (fun _ => none) ∧ StoreBox w' s p u' (.slice none 0 0) all (v.settle C kk all last).2.2 true ∧ Fr [s, p, l, m] w w' ∧ DvAt w' p l m n q (b + n + 400) (v.settle C kk all last).2.1) ∧
    ((v.settle C kk all last).1 = 0 → ∃ u' wv', w.heap.size ≤ u' ∧ StoreBox w' s p u' wv' (all + 1) (v.settle C kk all last).2.2 false ∧ IMap w' u' (fun _ => none) ∧
      w'.ownsRow B 85 1 wv' 1 [Value.map (some u)] ∧ Fr [s, p, l, m] w w' ∧ DvAt w' p l m n q (b + n + 400) (v.settle C kk all last).2.1 ∧ ∀ k, wv'.ownBlock = some k → w.heap.size ≤ k)
set_option maxRecDepth 100000 in
set_option maxHeartbeats 8000000 in
theorem commit_crowd_full (w : World) (s p u l m n q : Nat) (wv : Value) (all last : Int) (b : Int) (v : Dv) (hs : StoreBox w s p u wv all last false) (hd : DvAt w p l m n q b v) (hb : b < 8999999999998000000) (hn : 300 < n) (hv : v.d = false) (hps : s ≠ p ∧ s ≠ l ∧ s ≠ m)
    (KU : Nat) (hU : MapOf w u KU) (hKU : 0 < KU ∧ KU ≤ 128) (hus : u ≠ s ∧ u ≠ p ∧ u ≠ l ∧ u ≠ m) (B : Nat) (hB : B ≤ w.heap.size) (hsB : s < B) (ms ks : List Nat) (Cs : List (Int → Option (List UInt8))) (hlen : ms.length = ks.length) (hlenC : ms.length = Cs.length) (h16 : ms.length ≤ 16) (hown : w.ownsRow B 85 1 wv ms.length (ms.map fun m => Value.map (some m)))
    (hwb : ∀ k, wv.ownBlock = some k → k ≠ s)
    (hm : ∀ j, j < ms.length → ChAt w (ms.getD j 0) n (Cs.getD j (fun _ => none)) ∧ Card (Cs.getD j (fun _ => none)) (ks.getD j 0) ∧ ms.getD j 0 ≠ s) (hks : ∀ x ∈ ks, x ≤ 8192) (hcrowd : (decide (ms.length = 16) || decide (256 < KU + ks.sum)) = true) (C : Int → Option (List UInt8)) (hCC : C = overL Cs) (K : Nat) (hK : Card C K) (hK2 : K ≤ 256) (hall : 0 ≤ all ∧ all < 9000000000000000000) :
    Calls Try.prog 15 #[.pointer (some ⟨s, 0, none⟩)] w (CrowdFull w s p u l m n q all last b v B C) := by
  have hmm := @run_makeMap Try.prog
  obtain ⟨i0, hi, hz0, hz1, hz2⟩ := info_parts Try.infoCh
  have HI := Lib.hid hi; have HZ0 := Lib.hid hz0; have HZ1 := Lib.hid hz1; have HZ2 := Lib.hid hz2
  clear hi hz0 hz1 hz2
  have h0 : 0 < ms.length := by
    simp only [Bool.or_eq_true, decide_eq_true_eq] at hcrowd
    rcases hcrowd with h | h
    · omega
    · have : 0 < ks.length := by
        cases ks with
        | nil => simp at h; omega
        | cons _ _ => simp
      omega
  have H1 := Lib.hid (died_calls w s p u wv all last false hs l m n q b v hd)
  rw [hv] at H1
  have HO := Lib.hid hown; have HM := Lib.hid hm; have HU := Lib.hid hU; have HKS := Lib.hid hks; have HL := Lib.hid hlen; have HLC := Lib.hid hlenC; have HK := Lib.hid hK; have HCC := Lib.hid hCC; have HCW := Lib.hid hcrowd; have HD := Lib.hid hd; have HWB := Lib.hid hwb
  clear hs hd hv hown hm hU hks hlen hlenC hK hCC hcrowd hwb
  go_enter Try.func15, Try.ntmps15
  go_wp2_with fail
  refine H1.out.mono ?_
  rintro e w1 ⟨rfl, hf1, hs1⟩
  have hown1 : w1.ownsRow B 85 1 wv ms.length (ms.map fun m => Value.map (some m)) := by
    refine ⟨HO.out.1, ?_⟩
    rcases HO.out.2 with h1 | ⟨g, cap, cur, h3, h4, h5, h6⟩
    · exact .inl h1
    · exact .inr ⟨g, cap, cur, h3, h4, hf1.keep h5 (by simp; omega), h6⟩
  have hmk : ∀ m' k', MapOf w m' k' → m' ≠ s → MapOf w1 m' k' := fun m' k' h hne => by
    obtain ⟨es, clk, hb, hes⟩ := h
    exact ⟨es, clk, hf1.keep hb (by simpa using hne), hes⟩
  have hcr := crowded_calls w1 s p u wv all last false hs1 KU (hmk u KU HU.out hus.1) (by omega) B ms ks HL.out (by omega) hown1 (fun j hj => hmk _ _ (MapOf.card (HM.out j hj).1 (HM.out j hj).2.1) (HM.out j hj).2.2) HKS.out
  rw [HCW.out] at hcr
  have hset := ssettle_calls w1 s p u l m n q wv all last false b v hs1 (HD.out.keep hf1 (by simp; omega) (by simp; omega) (by simp; omega)) hb hn hps B ms Cs h0 h16 HLC.out hown1 (fun j hj => (HM.out j hj).1.keep hf1 (by simpa using (HM.out j hj).2.2)) C HCC.out K HK.out hK2
  have HCR := Lib.hid hcr; have HSET := Lib.hid hset; have HF10 := Lib.hid hf1; have HUM := Lib.hid (hmk u KU HU.out hus.1)
  have hkp : (0 : Int) < (KU : Int) := by omega
  clear hcr hset hown1 hs1 hf1 hmk H1 HO HM HU HKS HL HD HLC HCC HCW HK
  go_wp2_with fail
  refine HCR.out.mono ?_
  rintro e w2 ⟨rfl, rfl⟩
  clear HCR
  go_wp2_with fail
  refine HSET.out.mono ?_
  rintro e w3 ⟨kk, hkk, rfl, hf3, hd3, hg3, hb3⟩
  unfold CrowdFull
  clear HSET
  have HKK := Lib.hid hkk
  have hF3 : Fr [s, p, l, m] w w3 := (HF10.out.mono (by simp)).trans hf3
  obtain ⟨r, hr⟩ : ∃ r, v.settle C kk all last = r := ⟨_, rfl⟩
  rw [hr] at hd3 hg3 hb3 ⊢
  obtain ⟨code, v2, lz⟩ := r
  simp only at hd3 hg3 hb3 ⊢
  by_cases hc : code = 0
  case neg =>
    obtain ⟨u', hu', hmu, hbu⟩ := hb3 hc
    have hsz1 := HF10.out.size
    have HMU := Lib.hid hmu; have HBU := Lib.hid hbu; have HF3 := Lib.hid hF3; have HD3 := Lib.hid hd3; have HR := Lib.hid hr
    clear hg3 hb3 hmu hbu hF3 hd3 hf3 hkk hr
    go_wp2_with fail
    go_ret
    exact ⟨kk, HKK.out, by rw [HR.out]; rfl, by rw [HR.out]; exact fun _ => ⟨u', by omega, HMU.out, HBU.out, HF3.out, HD3.out⟩, by rw [HR.out]; exact fun h => absurd h hc⟩
  subst hc
  have hs3 := hg3 rfl
  obtain ⟨wv2, hwv2⟩ : ∃ x : Value, x = .slice none 0 0 := ⟨_, rfl⟩
  obtain ⟨ms2, hms2⟩ : ∃ x : List Nat, x = [] := ⟨_, rfl⟩
  have hwn : wv2.ownBlock = none := by rw [hwv2]; rfl
  rw [← hwv2] at hs3
  have hown3 : w3.ownsRow B 85 1 wv2 ms2.length (ms2.map fun m => Value.map (some m)) := by rw [hwv2, hms2]; exact World.ownsRow_nil _ _ _ _
  have h162 : ms2.length < 16 := by rw [hms2]; simp
  have hus3 : MapOf w3 u KU := by
    obtain ⟨es, clk, hb, hes⟩ := HUM.out
    exact ⟨es, clk, hf3.keep hb (by simp; omega), hes⟩
  have hc1 := box_cell hs3
  have hfr1 := box_free hs3
  obtain ⟨eu, cu, hbu, hsu⟩ := hus3
  have hrl := fun ty => run_len_map (P := Try.prog) (w := w3) 85 ty u eu cu (by kernel_rfl) hbu
  rw [hsu] at hrl
  have HS1 := Lib.hid hs3; have HF1 := Lib.hid hF3; have HO1 := Lib.hid hown3; have HD3 := Lib.hid hd3; have HR := Lib.hid hr; have HWN := Lib.hid hwn; have HMS := Lib.hid hms2
  clear hg3 hb3 hs3 hown3 hF3 hd3 hf3 hkk hbu hsu hwv2 hr hms2
  go_wp2_with fail
  have HNC := Lib.hid (new_cellsW w3.drew [.map (some u)] 85)
  have hge := own_ge HO1.out
  have hsz1 := HF1.out.size
  have HGE := Lib.hid hge
  have hfd : Fr [] w3 (w3.drew.alloc (.cells [.map (some u)].toArray 85)) := ((Fr.refl [] w3).drew).alloc _
  have HFD := Lib.hid hfd
  have hs4k : ∀ w4, (w3.drew.alloc (.cells [.map (some u)].toArray 85)).grownBy w4 wv2.ownBlock → Fr wv2.ownBlock.toList w3 w4 ∧ StoreBox w4 s p u wv2 all lz false := fun w4 hg => by
    have h1 : Fr wv2.ownBlock.toList w3 w4 := (HFD.out.mono (by simp)).grown hg (fun k hk => .inl (by simp [hk]))
    exact ⟨h1, h1.keep HS1.out (by intro hx; have := HGE.out s (by simpa using hx); omega)⟩
  have HS4K := Lib.hid hs4k
  have hcA : (w3.alloc (.cells #[.map (some u)] 85)).cell? ⟨s, 2, none⟩ = some wv2 := (box_cell ((((Fr.refl [] w3).alloc (.cells #[.map (some u)] 85))).keep HS1.out (by simp)) 2).trans rfl
  clear hs4k hge hfd
  go_region_law (refine step_append_own rfl (.tmp 23) (.tmp 28) 86 rfl B 85 i0 (.map none) 1 8 Try.underlying86 HI.out HZ0.out HZ1.out HZ2.out rfl (by decide) _ ms2.length _ rfl (HO1.out.alloc _) ⟨w3.heap.size, 0, none⟩ 1 1 [.map (some u)] rfl rfl HNC.out (fun u hu => by simp at hu; rcases hu with rfl; rfl) (by unfold maxLen; omega) (by omega) (by simp; omega) ?_; intro v' w4 hown' hgrow _ hat; obtain ⟨g', cap', rfl, _⟩ := row_range hown' (by omega); obtain ⟨hf4, hs4⟩ := HS4K.out w4 hgrow; have hc42 : w4.cell? ⟨s, 2, none⟩ = some wv2 := (box_cell hs4 2).trans rfl; have hfr42 : w4.frozen? ⟨s, 2, none⟩ = false := box_free hs4 2)
  all_goals
    have hat2 : ∀ k, (Value.slice (some ⟨g', 0, none⟩) (ms2.length + 1) cap').ownBlock = some k → wv2.ownBlock = some k ∨ w.heap.size ≤ k := fun k hk => by
      rcases hat with h | h
      · exact .inl (h.symm.trans hk)
      · right
        rw [h] at hk
        cases hk
        simp only [World.size_alloc, World.drew]
        omega
    have HAT := Lib.hid hat2
    clear hat hat2
    have hs5 : StoreBox (w4.setCell ⟨s, 2, none⟩ (.slice (some ⟨g', 0, none⟩) (ms2.length + 1) cap')) s p u (.slice (some ⟨g', 0, none⟩) (ms2.length + 1) cap') all lz false := by
      have := box_set hs4 2 (.slice (some ⟨g', 0, none⟩) (ms2.length + 1) cap')
      simpa [StoreBox] using this
    have hf45 : Fr [s] w4 (w4.setCell ⟨s, 2, none⟩ (.slice (some ⟨g', 0, none⟩) (ms2.length + 1) cap')) := (Fr.refl _ _).setCell (.inl (by simp)) _
    have ho5 : (w4.setCell ⟨s, 2, none⟩ (.slice (some ⟨g', 0, none⟩) (ms2.length + 1) cap')).ownsRow B 85 1 (.slice (some ⟨g', 0, none⟩) (ms2.length + 1) cap') (ms2.length + 1) ((ms2 ++ [u]).map fun m => Value.map (some m)) := by
      refine ⟨by simp, ?_⟩
      rcases hown'.2 with ⟨h1, _⟩ | ⟨g, cap, cur, h3, h4, h5, h6, h7, h8, h9⟩
      · cases h1
      · exact .inr ⟨g, cap, cur, h3, h4, hf45.keep h5 (by simp; omega), h6, h7, h8, by rw [h9]; simp⟩
    generalize w4.setCell ⟨s, 2, none⟩ (.slice (some ⟨g', 0, none⟩) (ms2.length + 1) cap') = w5 at *
    have hsz5 := hf45.size
    have hsz4 := hf4.size
    have hs5A : StoreBox (w5.alloc (.map #[] 0)) s p u (.slice (some ⟨g', 0, none⟩) (ms2.length + 1) cap') all lz false := ((Fr.refl [] w5).alloc _).keep hs5 (by simp)
    have hcA5 := box_cell hs5A
    have hfA5 := box_free hs5A
    have hfF : Fr [s] w5 (((w5.setCell ⟨s, 1, none⟩ (.map (some w5.heap.size))).setCell ⟨s, 3, none⟩ (.int .i64 (all + 1))).alloc (.map #[] 0)) := (((Fr.refl [s] w5).setCell (.inl (by simp)) _).setCell (.inl (by simp)) _).alloc _
    have hls := lt_of_heap hs5
    have hmF : IMap (((w5.setCell ⟨s, 1, none⟩ (.map (some w5.heap.size))).setCell ⟨s, 3, none⟩ (.int .i64 (all + 1))).alloc (.map #[] 0)) w5.heap.size (fun _ => none) := ⟨#[], 0, by
      have := heap_alloc_new ((w5.setCell ⟨s, 1, none⟩ (.map (some w5.heap.size))).setCell ⟨s, 3, none⟩ (.int .i64 (all + 1))) (.map #[] 0)
      rwa [show ((w5.setCell ⟨s, 1, none⟩ (.map (some w5.heap.size))).setCell ⟨s, 3, none⟩ (.int .i64 (all + 1))).heap.size = w5.heap.size by simp [World.setCell]] at this, Holds.empty 0⟩
    have hoF : (((w5.setCell ⟨s, 1, none⟩ (.map (some w5.heap.size))).setCell ⟨s, 3, none⟩ (.int .i64 (all + 1))).alloc (.map #[] 0)).ownsRow B 85 1 (.slice (some ⟨g', 0, none⟩) (ms2.length + 1) cap') (ms2.length + 1) ((ms2 ++ [u]).map fun m => Value.map (some m)) := by
      refine ⟨ho5.1, ?_⟩
      rcases ho5.2 with h1 | ⟨g, cap, cur, h3, h4, h5, h6⟩
      · exact .inl h1
      · exact .inr ⟨g, cap, cur, h3, h4, hfF.keep h5 (by simp; omega), h6⟩
    have hF3 : Fr [s] w3 (((w5.setCell ⟨s, 1, none⟩ (.map (some w5.heap.size))).setCell ⟨s, 3, none⟩ (.int .i64 (all + 1))).alloc (.map #[] 0)) :=
      ((hf4.mono (by rw [hwn]; simp)).trans hf45).trans hfF
    have hFk := HF1.out.trans (hF3.mono (l' := [s, p, l, m]) (by simp))
    have hDk := HD3.out.keep hF3 (by simp; omega) (by simp; omega) (by simp; omega)
    have HDK := Lib.hid hDk
    have HMF := Lib.hid hmF; have HOF := Lib.hid hoF; have HFK := Lib.hid hFk
    have hszz : w.heap.size ≤ w5.heap.size := by have := HF1.out.size; omega
    have hs6 : StoreBox (w5.setCell ⟨s, 1, none⟩ (.map (some w5.heap.size))) s p w5.heap.size (.slice (some ⟨g', 0, none⟩) (ms2.length + 1) cap') all lz false := by
      have := box_set hs5 1 (.map (some w5.heap.size))
      simpa [StoreBox] using this
    have hs6A : StoreBox ((w5.setCell ⟨s, 1, none⟩ (.map (some w5.heap.size))).alloc (.map #[] 0)) s p w5.heap.size (.slice (some ⟨g', 0, none⟩) (ms2.length + 1) cap') all lz false := ((Fr.refl [] _).alloc _).keep hs6 (by simp)
    have hc6 := box_cell hs6A
    have hf6 := box_free hs6A
    have hs7 : StoreBox (((w5.setCell ⟨s, 1, none⟩ (.map (some w5.heap.size))).setCell ⟨s, 3, none⟩ (.int .i64 (all + 1))).alloc (.map #[] 0)) s p w5.heap.size (.slice (some ⟨g', 0, none⟩) (ms2.length + 1) cap') (all + 1) lz false := by
      have h7 := box_set hs6 3 (.int .i64 (all + 1))
      exact ((Fr.refl [] _).alloc _).keep (by simpa [StoreBox] using h7) (by simp)
    have hc7 := box_cell hs7
    have HSF := Lib.hid hs7
    have w9 : IntKind.i64.wrap (all + 1) = all + 1 := IntWalk.i64_in _ (by omega)
    clear hF3 hDk hs5 hf45 ho5 hf4 hown' hgrow hc42 hfr42 hs4 hcA hs5A hmF hoF hFk hfF hs6 hs6A hs7
    go_wp2_with fail
    go_ret
    have e := HMS.out
    subst e
    exact ⟨kk, HKK.out, by rw [HR.out]; rfl, by rw [HR.out]; exact fun h => absurd rfl h, by rw [HR.out]; exact fun _ => ⟨_, _, hszz, HSF.out, HMF.out, HOF.out, HFK.out, HDK.out, fun k hk => by rcases HAT.out k hk with h | h; rw [HWN.out] at h; cases h; exact h⟩⟩
end Go.Proofs.Ytoifpbifipgpkaa
