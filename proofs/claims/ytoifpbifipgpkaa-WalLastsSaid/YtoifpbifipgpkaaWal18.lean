/-
  wal: what waits is made lasting, and brought home.
-/
import Derived.Test.YtoifpbifipgpkaaWal17
namespace Go.Proofs.Ytoifpbifipgpkaa
open Go.RowKit Go.MapKept
theorem KeysOf.one {C : Int → Option (List UInt8)} {a b : List Int} (ha : KeysOf C a) (hb : KeysOf C b) : a = b :=
  List.Perm.eq_of_pairwise (le := fun x y : Int => x ≤ y) (fun x y _ _ h1 h2 => by omega) ha.up hb.up ((List.perm_ext_iff_of_nodup ha.nd hb.nd).2 (fun x => by rw [ha.mem, hb.mem]))
set_option maxRecDepth 100000 in
set_option maxHeartbeats 4000000 in
theorem ssettle_calls (w : World) (s p u l m n q : Nat) (wv : Value) (all last : Int) (gone : Bool) (b : Int) (v : Dv) (hs : StoreBox w s p u wv all last gone) (hd : DvAt w p l m n q b v) (hb : b < 8999999999998000000) (hn : 300 < n) (hps : s ≠ p ∧ s ≠ l ∧ s ≠ m)
    (B : Nat) (ms : List Nat) (Cs : List (Int → Option (List UInt8))) (h0 : 0 < ms.length) (h16 : ms.length ≤ 16) (hlen : ms.length = Cs.length) (hown : w.ownsRow B 85 1 wv ms.length (ms.map fun m => Value.map (some m)))
    (hm : ∀ j, j < ms.length → ChAt w (ms.getD j 0) n (Cs.getD j (fun _ => none))) (C : Int → Option (List UInt8)) (hCC : C = overL Cs) (K : Nat) (hK : Card C K) (hK2 : K ≤ 256) :
    Calls Try.prog 42 #[.pointer (some ⟨s, 0, none⟩)] w fun e w' => ∃ ks, KeysOf C ks ∧ e = .returned (.int .i64 (v.settle C ks all last).1) ∧ Fr [s, p, l, m] w w' ∧ DvAt w' p l m n q (b + n + 400) (v.settle C ks all last).2.1 ∧
      ((v.settle C ks all last).1 = 0 → StoreBox w' s p u (.slice none 0 0) all (v.settle C ks all last).2.2 gone) ∧
      ((v.settle C ks all last).1 ≠ 0 → ∃ u', w.heap.size ≤ u' ∧ IMap w' u' (fun _ => none) ∧ StoreBox w' s p u' (.slice none 0 0) all (v.settle C ks all last).2.2 true) := by
  have hmm := @run_makeMap Try.prog
  have hlt := hd.lts
  have hls := lt_of_heap hs
  have hnb := hd.at_.nb
  obtain ⟨g, cap, rfl, hBg, hgl, hrg⟩ := row_range hown h0
  have hcell : ∀ j, j < ms.length → w.cell? ⟨g, j, none⟩ = some (.map (some (ms.getD j 0))) := fun j hj => by
    have := hrg j (.map (some (ms.getD j 0))) (by simp [hj])
    rwa [Nat.zero_add] at this
  have HS := Lib.hid hs; have HD := Lib.hid hd; have HM := Lib.hid hm; have HCELL := Lib.hid hcell; have HK := Lib.hid hK; have HLEN := Lib.hid hlen; have HCC := Lib.hid hCC
  have hc := box_cell hs
  have hF1 : Fr [] w (w.alloc (.map #[] 0)) := (Fr.refl [] w).alloc _
  have hs1 := hF1.keep hs (by simp)
  have hc1 := box_cell hs1
  have hm1 : ChAt (w.alloc (.map #[] 0)) w.heap.size n (fun _ => none) := ⟨⟨#[], 0, heap_alloc_new w _, Holds.empty 0⟩, fun i s h => by cases h⟩
  have HM1 := Lib.hid hm1; have HS1 := Lib.hid hs1; have HF1 := Lib.hid hF1
  have hne0 : ¬ ((ms.length : Int) = 0) := by omega
  clear hs hd hown hm hcell hrg hK hlen hm1 hs1 hF1 hCC
  obtain ⟨N, hN⟩ : ∃ N, ms.length = N := ⟨_, rfl⟩
  have HN := Lib.hid hN
  rw [hN] at hc hc1 h0 h16 hne0
  clear hN
  go_enter Try.func42, Try.ntmps42
  go_wp2_with fail
  refine wp_scope_jumps 0 (fun a' w' => ∃ (ks : List Int) (code : Int) (vd : Dv) (lz : Int) (u1 u2 u3 u4 u5 u7 u8 u9 u10 u11 u12 u13 u14 u15 u16 u17 u18 u19 u20 u21 u22 u23 u24 u25 u26 u27 u28 u29 u30 u31 u32 u33 u34 u35 u36 u37 u38 u39 u40 u41 u42 u43 u44 u45 u46 u47 u48 u49 u50 u51 u52 u53 u54 u55 u56 u57 u58 u59 u60 u61 u62 u63 u64 u65 u66 u67 u68 u69 u70 u71 u72 : Value), KeysOf C ks ∧ code ≠ 0 ∧ v.settle C ks all last = (code, vd, lz) ∧ DvAt w' p l m n q (b + n + 400) vd ∧ StoreBox w' s p u (.slice (some ⟨g, 0, none⟩) ms.length cap) all lz gone ∧ Fr [s, p, l, m] w w' ∧ a' = { tmps := #[.pointer (some ⟨s, 0, none⟩), u1, u2, u3, u4, u5, .int .i64 code, u7, u8, u9, u10, u11, u12, u13, u14, u15, u16, u17, u18, u19, u20, u21, u22, u23, u24, u25, u26, u27, u28, u29, u30, u31, u32, u33, u34, u35, u36, u37, u38, u39, u40, u41, u42, u43, u44, u45, u46, u47, u48, u49, u50, u51, u52, u53, u54, u55, u56, u57, u58, u59, u60, u61, u62, u63, u64, u65, u66, u67, u68, u69, u70, u71, u72], defers := [] }) (fun _ _ => 0) rfl ?first ?pass
  case first =>
    go_wp2_with fail
    rw [show ((N : Int) == 0) = false by simp; omega]
    go_loopw [19] (fun v19 wr => ∃ j : Nat, j ≤ N ∧ v19 = .int .i64 j ∧ ChAt wr w.heap.size n (overL (Cs.take j)) ∧ Fr [w.heap.size] (w.alloc (.map #[] 0)) wr) (fun v19 _ => N - (intOf v19).toNat)
    case atStart => exact ⟨0, by omega, rfl, HM1.out, Fr.refl _ _⟩
    case round =>
      obtain ⟨j, hj, rfl, hch, hf⟩ := hrel
      have hfa : Fr [] w wr := HF1.out.trans_new hf (by simp)
      by_cases hlt2 : j < N
      · have hlt' : (j : Int) < (N : Int) := by omega
        have hj0 : (0 : Int) ≤ (j : Int) := by omega
        have hcj : wr.cell? ⟨g, j, none⟩ = some (.map (some (ms.getD j 0))) := by
          rw [World.cell?_of_block (w := w) (hfa.block g hgl (by simp))]; exact HCELL.out j (by rw [HN.out]; exact hlt2)
        have hmj := HM.out j (by rw [HN.out]; exact hlt2)
        have hmlt := hmj.map.lt
        have hcp := copy_calls wr w.heap.size (ms.getD j 0) n _ _ hch (hmj.keep hfa (by simp)) (by omega)
        rw [← overL_take Cs (by rw [← HLEN.out, HN.out]; exact hlt2)] at hcp
        have HCP := Lib.hid hcp; have HF := Lib.hid hf
        generalize ms.getD j 0 = mj at *
        clear hcp hf hmj hfa hch hmlt
        go_wp2_with fail
        refine HCP.out.mono ?_
        rintro e w2 ⟨rfl, hf2, hch2⟩
        have HF2 := Lib.hid (HF.out.trans hf2); have HCH := Lib.hid hch2
        clear hf2 hch2
        go_wp2_with fail
        go_roundw
        case rel => exact ⟨j + 1, by omega, by go_num, HCH.out, HF2.out⟩
        case measure => simp [intOf]; omega
      · obtain rfl : j = N := by omega
        have e1 : overL (Cs.take j) = C := by rw [HCC.out, List.take_of_length_le (by rw [← HLEN.out, HN.out]; exact Nat.le_refl _)]
        rw [e1] at hch
        have hsz := hfa.size
        have hszf := hf.size
        simp only [World.size_alloc] at hszf
        have hd1 := HD.out.keep hfa (by simp) (by simp) (by simp)
        have hs1 : StoreBox wr s p u _ all last gone := hfa.keep HS.out (by simp)
        have hc1 := box_cell hs1
        have HL := Lib.hid (writeLog_calls wr p l m n q b v hd1 (by omega) w.heap.size C hch (by omega) hn K HK.out hK2)
        have HCH := Lib.hid hch; have HSB := Lib.hid hs1; have HFA := Lib.hid hfa
        clear hch hfa hf hd1 hs1 e1
        go_wp2_with fail
        refine HL.out.mono ?_
        rintro e w2 ⟨ks, hks, rfl, hf2, hd2⟩
        have hkl := hks.len HK.out
        obtain ⟨r, hr⟩ : ∃ r, v.log C ks = r := ⟨_, rfl⟩
        rw [hr] at hd2 ⊢
        obtain ⟨code, v2⟩ := r
        simp only at hd2 ⊢
        have hF2 : Fr [p, l, m] w w2 := (HFA.out.mono (by simp)).trans hf2
        have hs2 : StoreBox w2 s p u _ all last gone := hf2.keep HSB.out (by simp; omega)
        have hch2 := HCH.out.keep hf2 (by simp; omega)
        have hc2 := box_cell hs2
        clear hc1
        by_cases hc : code = 0
        · subst hc
          obtain ⟨es, clk, hbm, hh⟩ := hch2.map
          have hes : es.size = K := (Card.of hh).one HK.out
          have hrl := fun ty => run_len_map (P := Try.prog) (w := w2.drew) 85 ty w.heap.size es clk (by kernel_rfl) hbm
          rw [hes] at hrl
          have hwh := writeHead_calls w2.drew p l m n q (b + 300) v2 (hd2.keep ((Fr.refl [] w2).drew) (by simp) (by simp) (by simp)) (by omega) (by omega) K
          obtain ⟨r3, hr3⟩ : ∃ r3, v2.head K = r3 := ⟨_, rfl⟩
          rw [hr3] at hwh
          obtain ⟨code3, v3⟩ := r3
          simp only at hwh
          have HWH := Lib.hid hwh; have HF2 := Lib.hid hF2; have HS2 := Lib.hid hs2; have HCH2 := Lib.hid hch2; have HKS := Lib.hid hks; have HR := Lib.hid hr; have HR3 := Lib.hid hr3; have HKL := Lib.hid hkl
          clear hwh hF2 hs2 hch2 hks hr hr3 hkl hd2 hf2 hbm hh HL HCH HSB HFA
          go_wp2_with fail
          go_region_with (go_at_call 60; refine HWH.out.mono ?_; rintro e w3 ⟨rfl, hf3, hd3⟩)
          all_goals
            have hF3 : Fr [p, l, m] w w3 := HF2.out.trans (((Fr.refl [p, l, m] w2).drew).trans hf3)
            have hs3 : StoreBox w3 s p u _ all last gone := (((Fr.refl [p, l, m] w2).drew).trans hf3).keep HS2.out (by simp; omega)
            have hch3 := HCH2.out.keep (((Fr.refl [p, l, m] w2).drew).trans hf3) (by simp; omega)
            have hsz3 := hF3.size
            by_cases hc3 : code3 = 0
            · subst hc3
              have hs4 := store_box4 hs3 all
              have hone : Fr [s] w3 (w3.setCell ⟨s, 4, none⟩ (.int .i64 all)) := (Fr.refl _ _).setCell (.inl (by simp)) _
              have hc3 := box_cell hs3
              have hf3' := box_free hs3
              have hc4 := box_cell hs4
              have hd4 := hd3.keep hone (by simp; omega) (by simp; omega) (by simp; omega)
              have hch4 := hch3.keep hone (by simp; omega)
              have hbh := bringHome_calls (w3.setCell ⟨s, 4, none⟩ (.int .i64 all)) p l m n q (b + 300 + 2) v3 hd4 (by omega) w.heap.size C hch4 (by omega) (by omega)
              have HBH := Lib.hid hbh; have HS4 := Lib.hid hs4; have HF4 := Lib.hid ((hF3.mono (l' := [s, p, l, m]) (by simp +contextual)).trans (hone.mono (by simp)))
              clear hbh hs4 hone hd4 hch4 hch3 hF3 hs3 hd3 hf3
              go_wp2_with fail
              refine HBH.out.mono ?_
              rintro e w5 ⟨ks2, hks2, rfl, hf5, hd5⟩
              obtain rfl := HKS.out.one hks2
              obtain ⟨r5, hr5⟩ : ∃ r5, v3.home C ks = r5 := ⟨_, rfl⟩
              rw [hr5] at hd5 ⊢
              obtain ⟨code5, v5⟩ := r5
              simp only at hd5 ⊢
              have hset : v.settle C ks all last = (code5, v5, all) := by
                unfold Dv.settle
                rw [HR.out]
                simp only [if_true]
                rw [HKL.out, HR3.out]
                simp only [if_true]
                rw [hr5]
              have hs5 : StoreBox w5 s p u _ all all gone := hf5.keep HS4.out (by simp; omega)
              have hF5 : Fr [s, p, l, m] w w5 := HF4.out.trans (hf5.mono (by simp +contextual))
              have HD5 := Lib.hid (hd5.more (b' := b + n + 400) (by omega)); have HSET := Lib.hid hset
              by_cases hc5 : code5 = 0
              · subst hc5
                have hc5 := box_cell hs5
                have hff5 := box_free hs5
                have hs6 := store_box2 hs5 (.slice none 0 0)
                have hone6 : Fr [s] w5 (w5.setCell ⟨s, 2, none⟩ (.slice none 0 0)) := (Fr.refl _ _).setCell (.inl (by simp)) _
                have hd6 := HD5.out.keep hone6 (by simp; omega) (by simp; omega) (by simp; omega)
                have HS6 := Lib.hid hs6; have HF6 := Lib.hid (hF5.trans (hone6.mono (by simp))); have HD6 := Lib.hid hd6
                clear hs6 hone6 hd6 hs5 hF5 hd5 hf5 hset hr5 hks2 hc3 hf3' hc4 hc2
                go_wp2_with fail
                simp only [Exit.jump]
                go_ret
                exact ⟨ks, HKS.out, by rw [HSET.out]; rfl, HF6.out, by rw [HSET.out]; exact HD6.out, fun _ => by rw [HSET.out]; exact HS6.out, fun h => absurd (by rw [HSET.out]) h⟩
              · have HS5 := Lib.hid hs5; have HF5 := Lib.hid hF5
                clear hs5 hF5 hd5 hf5 hset hr5 hks2
                go_wp2_with fail
                go_step3
                refine ⟨rfl, ks, code5, v5, all, _, _, _, _, _, _, _, _, _, _, _, _, _, _, _, _, _, _, _, _, _, _, _, _, _, _, _, _, _, _, _, _, _, _, _, _, _, _, _, _, _, _, _, _, _, _, _, _, _, _, _, _, _, _, _, _, _, _, _, _, _, _, _, _, _, _, _, _, _, _, _, HKS.out, hc5, HSET.out, HD5.out, HS5.out, HF5.out, rfl⟩
            · have hset : v.settle C ks all last = (code3, v3, last) := by
                unfold Dv.settle
                rw [HR.out]
                simp only [if_true]
                rw [HKL.out, HR3.out]
                simp only [hc3, ↓reduceIte]
              have HSET := Lib.hid hset; have HD3 := Lib.hid (hd3.more (b' := b + n + 400) (by omega)); have HF3 := Lib.hid hF3; have HS3 := Lib.hid hs3
              clear hset hd3 hF3 hs3 hf3 hch3
              go_wp2_with fail
              go_step3
              refine ⟨rfl, ks, code3, v3, last, _, _, _, _, _, _, _, _, _, _, _, _, _, _, _, _, _, _, _, _, _, _, _, _, _, _, _, _, _, _, _, _, _, _, _, _, _, _, _, _, _, _, _, _, _, _, _, _, _, _, _, _, _, _, _, _, _, _, _, _, _, _, _, _, _, _, _, _, _, _, _, HKS.out, hc3, HSET.out, HD3.out, HS3.out, HF3.out.mono (by simp +contextual), rfl⟩
        · have hset : v.settle C ks all last = (code, v2, last) := by unfold Dv.settle; rw [hr]; simp only [hc, ↓reduceIte]
          have HSET := Lib.hid hset; have HKS := Lib.hid hks; have HD2 := Lib.hid (hd2.more (b' := b + n + 400) (by omega)); have HF2 := Lib.hid hF2; have HS2 := Lib.hid hs2
          clear hset hks hd2 hF2 hs2 hf2 hch2 hr
          go_wp2_with fail
          go_step3
          refine ⟨rfl, ks, code, v2, last, _, _, _, _, _, _, _, _, _, _, _, _, _, _, _, _, _, _, _, _, _, _, _, _, _, _, _, _, _, _, _, _, _, _, _, _, _, _, _, _, _, _, _, _, _, _, _, _, _, _, _, _, _, _, _, _, _, _, _, _, _, _, _, _, _, _, _, _, _, _, _, HKS.out, hc, HSET.out, HD2.out, HS2.out, HF2.out.mono (by simp +contextual), rfl⟩
  case pass =>
    rintro a' w1 ⟨ks, code, vd, lz, u1, u2, u3, u4, u5, u7, u8, u9, u10, u11, u12, u13, u14, u15, u16, u17, u18, u19, u20, u21, u22, u23, u24, u25, u26, u27, u28, u29, u30, u31, u32, u33, u34, u35, u36, u37, u38, u39, u40, u41, u42, u43, u44, u45, u46, u47, u48, u49, u50, u51, u52, u53, u54, u55, u56, u57, u58, u59, u60, u61, u62, u63, u64, u65, u66, u67, u68, u69, u70, u71, u72, hks, hc0, hset, hd1, hs1, hf1, rfl⟩
    have hfa := failed_of hs1
    have hone := hfa.fr
    have q0 := store_alloc hs1 (.map #[] 0)
    have q1 := store_box5 q0 true
    have q2 := store_box1 q1 w1.heap.size
    have c0 := box_cell q0; have f0 := box_free q0
    have c1 := box_cell q1; have f1 := box_free q1
    have c2 := box_cell q2; have f2 := box_free q2
    have hdz := hd1.keep hone (by simp; omega) (by simp; omega) (by simp; omega)
    have hfz := hf1.trans (hone.mono (l' := [s, p, l, m]) (by simp))
    have hsz := hf1.size
    have HFA := Lib.hid hfa; have HKS := Lib.hid hks; have HSET := Lib.hid hset; have HDZ := Lib.hid hdz; have HFZ := Lib.hid hfz
    clear hfa hone q0 q1 q2 hd1 hs1 hf1 hks hset hdz hfz hc hc1 HS HD HM HCELL HK HLEN HCC HM1 HS1 HF1
    go_wp2_with fail
    simp only [Exit.jump]
    go_ret
    exact ⟨ks, HKS.out, by rw [HSET.out]; rfl, HFZ.out, by rw [HSET.out]; exact HDZ.out, fun h => absurd (by rw [HSET.out] at h; exact h) hc0, fun _ => ⟨_, hsz, HFA.out.map, by rw [HSET.out]; exact HFA.out.box⟩⟩
end Go.Proofs.Ytoifpbifipgpkaa
