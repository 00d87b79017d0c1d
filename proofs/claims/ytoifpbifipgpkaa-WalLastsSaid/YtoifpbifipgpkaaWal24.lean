/-
  wal: Commit of nothing where what waits is settled first; Sync.
-/
import Derived.Test.YtoifpbifipgpkaaWal23
namespace Go.Proofs.Ytoifpbifipgpkaa
open Go.RowKit Go.MapKept
/-- A Commit that settles, of a change that has no sector. -/
def CrowdNone (w : World) (s p u l m n q : Nat) (all last : Int) (b : Int) (v : Dv) (C : Int → Option (List UInt8)) (e : Ending) (w' : World) : Prop :=
  ∃ kk, KeysOf C kk ∧ e = .returned (.int .i64 (v.settle C kk all last).1) ∧
    ((v.settle C kk all last).1 ≠ 0 → ∃ u', w.heap.size ≤ u' ∧ IMap w' u' (fun _ => none) ∧ StoreBox w' s p u' (.slice none 0 0) all (v.settle C kk all last).2.2 true ∧ Fr [s, p, l, m] w w' ∧ DvAt w' p l m n q (b + n + 400) (v.settle C kk all last).2.1) ∧
    ((v.settle C kk all last).1 = 0 → StoreBox w' s p u (.slice none 0 0) (all + 1) (all + 1) false ∧ Fr [s, p, l, m] w w' ∧ DvAt w' p l m n q (b + n + 400) (v.settle C kk all last).2.1)
set_option maxRecDepth 100000 in
set_option maxHeartbeats 8000000 in
theorem commit_crowd_none (w : World) (s p u l m n q : Nat) (wv : Value) (all last : Int) (b : Int) (v : Dv) (hs : StoreBox w s p u wv all last false) (hd : DvAt w p l m n q b v) (hb : b < 8999999999998000000) (hn : 300 < n) (hv : v.d = false) (hps : s ≠ p ∧ s ≠ l ∧ s ≠ m)
    (hU : MapOf w u 0) (hus : u ≠ s ∧ u ≠ p ∧ u ≠ l ∧ u ≠ m) (B : Nat) (hB : B ≤ w.heap.size) (hsB : s < B) (ms ks : List Nat) (Cs : List (Int → Option (List UInt8))) (hlen : ms.length = ks.length) (hlenC : ms.length = Cs.length) (h16 : ms.length ≤ 16) (hown : w.ownsRow B 85 1 wv ms.length (ms.map fun m => Value.map (some m)))
    (hwb : ∀ k, wv.ownBlock = some k → k ≠ s)
    (hm : ∀ j, j < ms.length → ChAt w (ms.getD j 0) n (Cs.getD j (fun _ => none)) ∧ Card (Cs.getD j (fun _ => none)) (ks.getD j 0) ∧ ms.getD j 0 ≠ s) (hks : ∀ x ∈ ks, x ≤ 8192) (hcrowd : (decide (ms.length = 16) || decide (256 < 0 + ks.sum)) = true) (C : Int → Option (List UInt8)) (hCC : C = overL Cs) (K : Nat) (hK : Card C K) (hK2 : K ≤ 256) (hall : 0 ≤ all ∧ all < 9000000000000000000) :
    Calls Try.prog 15 #[.pointer (some ⟨s, 0, none⟩)] w (CrowdNone w s p u l m n q all last b v C) := by
  have hmm := @run_makeMap Try.prog
  obtain ⟨i0, hi, hz0, hz1, hz2⟩ := info_parts Try.infoCh
  have HI := Lib.hid hi; have HZ0 := Lib.hid hz0; have HZ1 := Lib.hid hz1; have HZ2 := Lib.hid hz2
  clear hi hz0 hz1 hz2
  have h0 : 0 < ms.length := by
    simp only [Bool.or_eq_true, decide_eq_true_eq] at hcrowd
    rcases hcrowd with h | h
    · omega
    · have : 0 < ks.length := by
        cases ks with
        | nil => simp at h
        | cons _ _ => simp
      omega
  have H1 := Lib.hid (died_calls w s p u wv all last false hs l m n q b v hd)
  rw [hv] at H1
  have HO := Lib.hid hown; have HM := Lib.hid hm; have HU := Lib.hid hU; have HKS := Lib.hid hks; have HL := Lib.hid hlen; have HLC := Lib.hid hlenC; have HK := Lib.hid hK; have HCC := Lib.hid hCC; have HCW := Lib.hid hcrowd; have HD := Lib.hid hd; have HWB := Lib.hid hwb
  clear hs hd hv hown hm hU hks hlen hlenC hK hCC hcrowd hwb
  go_enter Try.func15, Try.ntmps15
  go_wp2_with fail
  refine H1.out.mono ?_
  rintro e w1 ⟨rfl, hf1, hs1⟩
  have hown1 : w1.ownsRow B 85 1 wv ms.length (ms.map fun m => Value.map (some m)) := by
    refine ⟨HO.out.1, ?_⟩
    rcases HO.out.2 with h1 | ⟨g, cap, cur, h3, h4, h5, h6⟩
    · exact .inl h1
    · exact .inr ⟨g, cap, cur, h3, h4, hf1.keep h5 (by simp; omega), h6⟩
  have hmk : ∀ m' k', MapOf w m' k' → m' ≠ s → MapOf w1 m' k' := fun m' k' h hne => by
    obtain ⟨es, clk, hb, hes⟩ := h
    exact ⟨es, clk, hf1.keep hb (by simpa using hne), hes⟩
  have hcr := crowded_calls w1 s p u wv all last false hs1 0 (hmk u 0 HU.out hus.1) (by omega) B ms ks HL.out (by omega) hown1 (fun j hj => hmk _ _ (MapOf.card (HM.out j hj).1 (HM.out j hj).2.1) (HM.out j hj).2.2) HKS.out
  rw [HCW.out] at hcr
  have hset := ssettle_calls w1 s p u l m n q wv all last false b v hs1 (HD.out.keep hf1 (by simp; omega) (by simp; omega) (by simp; omega)) hb hn hps B ms Cs h0 h16 HLC.out hown1 (fun j hj => (HM.out j hj).1.keep hf1 (by simpa using (HM.out j hj).2.2)) C HCC.out K HK.out hK2
  have HCR := Lib.hid hcr; have HSET := Lib.hid hset; have HF10 := Lib.hid hf1; have HUM := Lib.hid (hmk u 0 HU.out hus.1)
  clear hcr hset hown1 hs1 hf1 hmk H1 HO HM HU HKS HL HD HLC HCC HCW HK
  go_wp2_with fail
  refine HCR.out.mono ?_
  rintro e w2 ⟨rfl, rfl⟩
  clear HCR
  go_wp2_with fail
  refine HSET.out.mono ?_
  rintro e w3 ⟨kk, hkk, rfl, hf3, hd3, hg3, hb3⟩
  unfold CrowdNone
  clear HSET
  have HKK := Lib.hid hkk
  have hF3 : Fr [s, p, l, m] w w3 := (HF10.out.mono (by simp)).trans hf3
  obtain ⟨r, hr⟩ : ∃ r, v.settle C kk all last = r := ⟨_, rfl⟩
  rw [hr] at hd3 hg3 hb3 ⊢
  obtain ⟨code, v2, lz⟩ := r
  simp only at hd3 hg3 hb3 ⊢
  by_cases hc : code = 0
  case neg =>
    obtain ⟨u', hu', hmu, hbu⟩ := hb3 hc
    have hsz1 := HF10.out.size
    have HMU := Lib.hid hmu; have HBU := Lib.hid hbu; have HF3 := Lib.hid hF3; have HD3 := Lib.hid hd3; have HR := Lib.hid hr
    clear hg3 hb3 hmu hbu hF3 hd3 hf3 hkk hr
    go_wp2_with fail
    go_ret
    exact ⟨kk, HKK.out, by rw [HR.out]; rfl, by rw [HR.out]; exact fun _ => ⟨u', by omega, HMU.out, HBU.out, HF3.out, HD3.out⟩, by rw [HR.out]; exact fun h => absurd h hc⟩
  subst hc
  have hs3 := hg3 rfl
  have hus3 : MapOf w3 u 0 := by
    obtain ⟨es, clk, hb, hes⟩ := HUM.out
    exact ⟨es, clk, hf3.keep hb (by simp; omega), hes⟩
  have hc1 := box_cell hs3
  have hfr1 := box_free hs3
  obtain ⟨eu, cu, hbu, hsu⟩ := hus3
  have hrl := fun ty => run_len_map (P := Try.prog) (w := w3) 85 ty u eu cu (by kernel_rfl) hbu
  rw [hsu] at hrl
  have w9 : IntKind.i64.wrap (all + 1) = all + 1 := IntWalk.i64_in _ (by omega)
  have hs31 : StoreBox (w3.setCell ⟨s, 3, none⟩ (.int .i64 (all + 1))) s p u (.slice none 0 0) (all + 1) lz false := by
    have := box_set hs3 3 (.int .i64 (all + 1))
    simpa [StoreBox] using this
  have hs4 : StoreBox ((w3.setCell ⟨s, 3, none⟩ (.int .i64 (all + 1))).setCell ⟨s, 4, none⟩ (.int .i64 (all + 1))) s p u (.slice none 0 0) (all + 1) (all + 1) false := by
    have := box_set hs31 4 (.int .i64 (all + 1))
    simpa [StoreBox] using this
  have hf4 : Fr [s] w3 ((w3.setCell ⟨s, 3, none⟩ (.int .i64 (all + 1))).setCell ⟨s, 4, none⟩ (.int .i64 (all + 1))) := ((Fr.refl _ _).setCell (.inl (by simp)) _).setCell (.inl (by simp)) _
  have hc3 := box_cell hs31
  have hfr3 := box_free hs31
  have HS4 := Lib.hid hs4; have HF4 := Lib.hid (hF3.trans (hf4.mono (l' := [s, p, l, m]) (by simp))); have HD4 := Lib.hid (hd3.keep hf4 (by simp; omega) (by simp; omega) (by simp; omega)); have HR := Lib.hid hr
  clear hg3 hb3 hs3 hF3 hd3 hf3 hkk hbu hsu hr hs31 hs4 hf4
  go_wp2_with fail
  go_ret
  exact ⟨kk, HKK.out, by rw [HR.out]; rfl, by rw [HR.out]; exact fun h => absurd rfl h, by rw [HR.out]; exact fun _ => ⟨HS4.out, HF4.out, HD4.out⟩⟩
/-- A Sync. -/
theorem sync_dead (w : World) (s p u l m n q : Nat) (wv : Value) (all last : Int) (gone : Bool) (b : Int) (v : Dv) (hs : StoreBox w s p u wv all last gone) (hd : DvAt w p l m n q b v) (hv : (gone || v.d) = true) :
    Calls Try.prog 16 #[.pointer (some ⟨s, 0, none⟩)] w fun e w' => e = .returned (.int .i64 50) ∧ Fr [s] w w' ∧ StoreBox w' s p u wv all last true := by
  have K := Lib.hid (died_calls w s p u wv all last gone hs l m n q b v hd)
  rw [hv] at K
  clear hs hd hv
  go_enter Try.func16, Try.ntmps16
  go_wp2_with fail
  refine K.out.mono ?_
  rintro e w1 ⟨rfl, hf, hs⟩
  go_wp2_with fail
  go_ret
  exact ⟨rfl, hf, hs⟩
theorem commit_dead (w : World) (s p u l m n q : Nat) (wv : Value) (all last : Int) (gone : Bool) (b : Int) (v : Dv) (hs : StoreBox w s p u wv all last gone) (hd : DvAt w p l m n q b v) (hv : (gone || v.d) = true) :
    Calls Try.prog 15 #[.pointer (some ⟨s, 0, none⟩)] w fun e w' => e = .returned (.int .i64 50) ∧ Fr [s] w w' ∧ StoreBox w' s p u wv all last true := by
  have K := Lib.hid (died_calls w s p u wv all last gone hs l m n q b v hd)
  rw [hv] at K
  clear hs hd hv
  go_enter Try.func15, Try.ntmps15
  go_wp2_with fail
  refine K.out.mono ?_
  rintro e w1 ⟨rfl, hf, hs⟩
  go_wp2_with fail
  go_ret
  exact ⟨rfl, hf, hs⟩
set_option maxHeartbeats 2000000 in
theorem sync_none (w : World) (s p u l m n q : Nat) (all last : Int) (b : Int) (v : Dv) (ad : Option Addr) (cap : Nat) (hs : StoreBox w s p u (.slice ad 0 cap) all last false) (hd : DvAt w p l m n q b v) (hv : v.d = false) :
    Calls Try.prog 16 #[.pointer (some ⟨s, 0, none⟩)] w fun e w' => e = .returned (.int .i64 0) ∧ Fr [s] w w' ∧ StoreBox w' s p u (.slice ad 0 cap) all last false := by
  have K := Lib.hid (died_calls w s p u (.slice ad 0 cap) all last false hs l m n q b v hd)
  rw [hv] at K
  clear hs hd hv
  go_enter Try.func16, Try.ntmps16
  go_wp2_with fail
  refine K.out.mono ?_
  rintro e w1 ⟨rfl, hf, hs⟩
  have K2 := Lib.hid (settle_none w1 s p u all last false ad cap hs)
  go_wp2_with fail
  refine K2.out.mono ?_
  rintro e w2 ⟨rfl, rfl⟩
  go_wp2_with fail
  go_ret
  exact ⟨rfl, hf, hs⟩
/-- A Sync of what waits. -/
def Synced (w : World) (s p u l m n q : Nat) (all last : Int) (b : Int) (v : Dv) (C : Int → Option (List UInt8)) (e : Ending) (w' : World) : Prop :=
  ∃ kk, KeysOf C kk ∧ e = .returned (.int .i64 (v.settle C kk all last).1) ∧ Fr [s, p, l, m] w w' ∧ DvAt w' p l m n q (b + n + 400) (v.settle C kk all last).2.1 ∧
    ((v.settle C kk all last).1 ≠ 0 → ∃ u', w.heap.size ≤ u' ∧ IMap w' u' (fun _ => none) ∧ StoreBox w' s p u' (.slice none 0 0) all (v.settle C kk all last).2.2 true) ∧
    ((v.settle C kk all last).1 = 0 → StoreBox w' s p u (.slice none 0 0) all (v.settle C kk all last).2.2 false)
set_option maxHeartbeats 2000000 in
theorem sync_full (w : World) (s p u l m n q : Nat) (wv : Value) (all last : Int) (b : Int) (v : Dv) (hs : StoreBox w s p u wv all last false) (hd : DvAt w p l m n q b v) (hv : v.d = false) (hb : b < 8999999999998000000) (hn : 300 < n) (hps : s ≠ p ∧ s ≠ l ∧ s ≠ m)
    (B : Nat) (hsB : s < B) (ms : List Nat) (Cs : List (Int → Option (List UInt8))) (h0 : 0 < ms.length) (h16 : ms.length ≤ 16) (hlen : ms.length = Cs.length) (hown : w.ownsRow B 85 1 wv ms.length (ms.map fun m => Value.map (some m)))
    (hm : ∀ j, j < ms.length → ChAt w (ms.getD j 0) n (Cs.getD j (fun _ => none)) ∧ ms.getD j 0 ≠ s) (C : Int → Option (List UInt8)) (hCC : C = overL Cs) (K : Nat) (hK : Card C K) (hK2 : K ≤ 256) :
    Calls Try.prog 16 #[.pointer (some ⟨s, 0, none⟩)] w (Synced w s p u l m n q all last b v C) := by
  have K1 := Lib.hid (died_calls w s p u wv all last false hs l m n q b v hd)
  rw [hv] at K1
  have HO := Lib.hid hown; have HM := Lib.hid hm; have HD := Lib.hid hd; have HK := Lib.hid hK; have HL := Lib.hid hlen; have HCC := Lib.hid hCC
  clear hs hd hv hown hm hK hlen hCC
  go_enter Try.func16, Try.ntmps16
  go_wp2_with fail
  refine K1.out.mono ?_
  rintro e w1 ⟨rfl, hf1, hs1⟩
  have hown1 : w1.ownsRow B 85 1 wv ms.length (ms.map fun m => Value.map (some m)) := by
    refine ⟨HO.out.1, ?_⟩
    rcases HO.out.2 with h1 | ⟨g, cap, cur, h3, h4, h5, h6⟩
    · exact .inl h1
    · exact .inr ⟨g, cap, cur, h3, h4, hf1.keep h5 (by simp; omega), h6⟩
  have K2 := Lib.hid (ssettle_calls w1 s p u l m n q wv all last false b v hs1 (HD.out.keep hf1 (by simp; omega) (by simp; omega) (by simp; omega)) hb hn hps B ms Cs h0 h16 HL.out hown1 (fun j hj => (HM.out j hj).1.keep hf1 (by simpa using (HM.out j hj).2)) C HCC.out K HK.out hK2)
  have HF1 := Lib.hid hf1
  have hsz := hf1.size
  clear hs1 hown1 hf1 HO HM HD HK HL HCC K1
  go_wp2_with fail
  refine K2.out.mono ?_
  rintro e w2 ⟨kk, hkk, rfl, hf2, hd2, hg2, hb2⟩
  have HF2 := Lib.hid ((HF1.out.mono (l' := [s, p, l, m]) (by simp)).trans hf2); have HKK := Lib.hid hkk; have HD2 := Lib.hid hd2; have HG := Lib.hid hg2; have HB := Lib.hid hb2
  clear hkk hf2 hd2 hg2 hb2
  go_wp2_with fail
  go_ret
  exact ⟨kk, HKK.out, rfl, HF2.out, HD2.out, fun h => by obtain ⟨u', h1, h2⟩ := HB.out h; exact ⟨u', by omega, h2⟩, HG.out⟩
end Go.Proofs.Ytoifpbifipgpkaa
