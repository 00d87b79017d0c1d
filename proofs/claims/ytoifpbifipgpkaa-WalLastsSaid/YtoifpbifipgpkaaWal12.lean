/-
  wal: Commit of nothing.
-/
import Derived.Test.YtoifpbifipgpkaaWal11
namespace Go.Proofs.Ytoifpbifipgpkaa
open Go.RowKit Go.MapKept
set_option maxRecDepth 100000 in
set_option maxHeartbeats 4000000 in
/-- Commit of a change without sectors. -/
theorem commit_none (w : World) (s p u l m n q : Nat) (wv : Value) (all last : Int) (b : Int) (v : Dv) (hs : StoreBox w s p u wv all last false) (hd : DvAt w p l m n q b v) (hv : v.d = false) (hps : s ≠ p ∧ s ≠ l ∧ s ≠ m)
    (hU : MapOf w u 0) (hus : u ≠ s) (B : Nat) (hsB : s < B) (ms ks : List Nat) (hlen : ms.length = ks.length) (h16 : ms.length < 16) (hown : w.ownsRow B 85 1 wv ms.length (ms.map fun m => Value.map (some m)))
    (hm : ∀ j, j < ms.length → MapOf w (ms.getD j 0) (ks.getD j 0) ∧ ms.getD j 0 ≠ s) (hks : ∀ x ∈ ks, x ≤ 8192) (hroom : ks.sum ≤ 256) (hall : 0 ≤ all ∧ all < 9000000000000000000) :
    Calls Try.prog 15 #[.pointer (some ⟨s, 0, none⟩)] w fun e w' => e = .returned (.int .i64 0) ∧ Fr [s] w w' ∧ StoreBox w' s p u wv (all + 1) (if ms.length = 0 then all + 1 else last) false := by
  have H1 := Lib.hid (died_calls w s p u wv all last false hs l m n q b v hd)
  rw [hv] at H1
  have HO := Lib.hid hown; have HM := Lib.hid hm; have HU := Lib.hid hU; have HKS := Lib.hid hks; have HL := Lib.hid hlen
  clear hs hd hv hown hm hU hks hlen
  generalize hL0 : (if ms.length = 0 then all + 1 else last) = lz at *
  go_enter Try.func15, Try.ntmps15
  go_wp2_with fail
  refine H1.out.mono ?_
  rintro e w1 ⟨rfl, hf1, hs1⟩
  have hown1 : w1.ownsRow B 85 1 wv ms.length (ms.map fun m => Value.map (some m)) := by
    refine ⟨HO.out.1, ?_⟩
    rcases HO.out.2 with h1 | ⟨g, cap, cur, h3, h4, h5, h6⟩
    · exact .inl h1
    · exact .inr ⟨g, cap, cur, h3, h4, hf1.keep h5 (by simp; omega), h6⟩
  have hmk : ∀ m' k', MapOf w m' k' → m' ≠ s → MapOf w1 m' k' := fun m' k' h hne => by
    obtain ⟨es, clk, hb, hes⟩ := h
    exact ⟨es, clk, hf1.keep hb (by simpa using hne), hes⟩
  have hcr := crowded_calls w1 s p u wv all last false hs1 0 (hmk u 0 HU.out hus) (by omega) B ms ks HL.out (by omega) hown1 (fun j hj => hmk _ _ (HM.out j hj).1 (HM.out j hj).2) HKS.out
  rw [show (decide (ms.length = 16) || decide (256 < 0 + ks.sum)) = false by simp; omega] at hcr
  have hc1 := box_cell hs1
  have hfr1 := box_free hs1
  obtain ⟨eu, cu, hbu, hsu⟩ := hmk u 0 HU.out hus
  have hrl := fun ty => run_len_map (P := Try.prog) (w := w1) 85 ty u eu cu (by kernel_rfl) hbu
  rw [hsu] at hrl
  have HCR := Lib.hid hcr; have HS1 := Lib.hid hs1; have HF1 := Lib.hid hf1; have HO1 := Lib.hid hown1
  clear hcr hown1 hf1 hmk hbu hsu H1 HO HM HU HKS HL
  obtain ⟨av, cv, hwv⟩ : ∃ a cap, wv = .slice a ms.length cap := by
    rcases HO1.out.2 with ⟨h1, h2⟩ | ⟨g, cap, cur, h1, _⟩
    · exact ⟨none, 0, by rw [h1, h2]⟩
    · exact ⟨_, cap, h1⟩
  have w9 : IntKind.i64.wrap (all + 1) = all + 1 := IntWalk.i64_in _ (by omega)
  subst hwv
  have hs3 : StoreBox (w1.setCell ⟨s, 3, none⟩ (.int .i64 (all + 1))) s p u (.slice av ms.length cv) (all + 1) last false := by
    have := box_set HS1.out 3 (.int .i64 (all + 1))
    simpa [StoreBox] using this
  have hs4 : StoreBox ((w1.setCell ⟨s, 3, none⟩ (.int .i64 (all + 1))).setCell ⟨s, 4, none⟩ (.int .i64 (all + 1))) s p u (.slice av ms.length cv) (all + 1) (all + 1) false := by
    have := box_set hs3 4 (.int .i64 (all + 1))
    simpa [StoreBox] using this
  have hf3 : Fr [s] w (w1.setCell ⟨s, 3, none⟩ (.int .i64 (all + 1))) := HF1.out.setCell (.inl (by simp)) _
  have hf4 : Fr [s] w ((w1.setCell ⟨s, 3, none⟩ (.int .i64 (all + 1))).setCell ⟨s, 4, none⟩ (.int .i64 (all + 1))) := hf3.setCell (.inl (by simp)) _
  have hc3 := box_cell hs3
  have hfr3 := box_free hs3
  have HS3 := Lib.hid hs3; have HS4 := Lib.hid hs4; have HF3 := Lib.hid hf3; have HF4 := Lib.hid hf4
  clear hs3 hs4 hf3 hf4
  by_cases h0 : ms.length = 0
  · have h0' : (ms.length : Int) = 0 := by omega
    have hlz : lz = all + 1 := by rw [← hL0, if_pos h0]
    subst hlz
    go_wp2_with fail
    refine HCR.out.mono ?_
    rintro e w2 ⟨rfl, rfl⟩
    go_wp2_with fail
    go_ret
    exact ⟨rfl, HF4.out, HS4.out⟩
  · have h0' : ¬ (ms.length : Int) = 0 := by omega
    have hlz : lz = last := by rw [← hL0, if_neg h0]
    subst hlz
    go_wp2_with fail
    refine HCR.out.mono ?_
    rintro e w2 ⟨rfl, rfl⟩
    go_wp2_with fail
    go_ret
    exact ⟨rfl, HF3.out, HS3.out⟩
end Go.Proofs.Ytoifpbifipgpkaa
