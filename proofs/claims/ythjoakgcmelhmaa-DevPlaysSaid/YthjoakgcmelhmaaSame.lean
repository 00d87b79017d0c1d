/-
  same: two devices tell the same.
-/
import Derived.Test.YthjoakgcmelhmaaRefCopy
import Derived.Test.YthjoakgcmelhmaaDevSmall
import Derived.Test.YthjoakgcmelhmaaDevWait
import Derived.Test.YthjoakgcmelhmaaDevUse
import Derived.Test.YthjoakgcmelhmaaQuiet
namespace Go.Proofs.Ythjoakgcmelhmaa
open Go.RowKit Go.MapKept
theorem ks_eq {ks : List Int} {wt : Int → Option (List UInt8)} {wt' : Nat → Bool} {n : Nat} (hm : ∀ x, x ∈ ks ↔ ∃ s, wt x = some s) (hn : ks.Nodup) (hs : ks.Pairwise (· ≤ ·)) (hd : ∀ i s, wt i = some s → 0 ≤ i ∧ i < n) (hw : ∀ j : Nat, j < n → (wt' j = true ↔ ∃ s, wt j = some s)) : ks = gotR wt' n := by
  refine List.Perm.eq_of_pairwise (le := (· ≤ ·)) (fun a b _ _ h1 h2 => by omega) hs ((gotR_sorted wt' n).imp (fun h => by omega)) ?_
  refine (List.perm_ext_iff_of_nodup hn ((gotR_sorted wt' n).imp (fun h => by omega))).2 fun x => ?_
  rw [hm, gotR_mem]
  constructor
  · rintro ⟨s, hx⟩
    obtain ⟨h0, h1⟩ := hd x s hx
    obtain ⟨j, rfl⟩ := Int.eq_ofNat_of_zero_le h0
    exact ⟨j, by omega, (hw j (by omega)).2 ⟨s, hx⟩, rfl⟩
  · rintro ⟨j, hj, hb, rfl⟩
    exact (hw j hj).1 hb
theorem ownsRow_cell {w : World} {B : Nat} {T : TypeId} {a : Option Addr} {n cap : Nat} {ks : List Int} (h : w.ownsRow B T 1 (.slice a n cap) n (ks.map (Value.int .i64))) {i : Nat} (hi : i < n) (hl : ks.length = n) :
    ∃ g, a = some ⟨g, 0, none⟩ ∧ B ≤ g ∧ w.cell? ⟨g, i, none⟩ = some (.int .i64 (ks.getD i 0)) := by
  obtain ⟨g, cap', e, hB, hlt, hr, _⟩ := owns_range h (by omega)
  cases e
  refine ⟨g, rfl, hB, ?_⟩
  have := hr i (.int .i64 (ks.getD i 0)) (by simp [List.getElem?_map, List.getElem?_eq_getElem (show i < ks.length by omega), List.getD])
  simpa using this
set_option maxRecDepth 100000 in
set_option maxHeartbeats 2000000 in
theorem same_calls (w : World) (p l m n q : Nat) (c f : Int) (d : Bool) (ls : Nat → List UInt8) (wt : Int → Option (List UInt8)) (hD : DevAt w p l m n q c f d ls wt)
    (r b q' : Nat) (f' : Int) (ls' nw' : Nat → List UInt8) (wt' : Nat → Bool) (hR : RefAt w r b n q' c f' d ls' nw' wt') (hw : ∀ j : Nat, j < n → (wt' j = true ↔ ∃ s, wt j = some s)) :
    Calls Try.prog 24 #[.pointer (some ⟨p, 0, none⟩), .pointer (some ⟨r, 0, none⟩)] w fun e w' => e = .returned (.bool true) ∧ Fr [] w w' := by
  have HD := Lib.hid hD; have HR := Lib.hid hR; have HW := Lib.hid hw; have hnb := hD.nb; clear hD hR hw
  go_enter Try.func24, Try.ntmps24
  go_wp2_with fail
  refine (waiting_calls w p l m n q c f d ls wt HD.out).mono ?_
  rintro e w1 ⟨v1, ks, rfl, hk1, hk2, hk3, ho1, _, hf1⟩
  have hks := ks_eq hk1 hk2 hk3 (fun i s h => ⟨(HD.out.dom i s h).1, (HD.out.dom i s h).2.1⟩) HW.out
  obtain ⟨a1, cap1, rfl⟩ := owns_slice ho1
  have hD1 := HD.out.keep hf1 (by simp) (by simp) (by simp)
  have hR1 := HR.out.keep hf1 (by simp) (by simp)
  have HO1 := Lib.hid ho1; have HD1 := Lib.hid hD1; have HR1 := Lib.hid hR1; have HF1 := Lib.hid hf1; have HKS := Lib.hid hks
  clear ho1 hD1 hR1 hf1 hk1 hk2 hk3 hks
  go_wp2_with fail
  refine (rwaiting_calls w1 r b n q' c f' d ls' nw' wt' HR1.out).mono ?_
  rintro e w2 ⟨v2, rfl, ho2, hf2⟩
  have hks := HKS.out
  rw [← hks] at ho2
  obtain ⟨a2, cap2, rfl⟩ := owns_slice ho2
  have hD2 := HD1.out.keep hf2 (by simp) (by simp) (by simp)
  have hR2 := HR1.out.keep hf2 (by simp) (by simp)
  have hkl : ks.length ≤ n := by rw [hks]; exact gotR_le _ _
  have hc2 := box_cell hR2.box
  have hsz1 := HF1.out.size; have hsz2 := hf2.size
  have hcells : ∀ i, i < ks.length → ∃ g1 g2, a1 = some ⟨g1, 0, none⟩ ∧ a2 = some ⟨g2, 0, none⟩ ∧ w2.cell? ⟨g1, i, none⟩ = some (.int .i64 (ks.getD i 0)) ∧ w2.cell? ⟨g2, i, none⟩ = some (.int .i64 (ks.getD i 0)) := by
    intro i hi
    obtain ⟨g1, e1, _, c1⟩ := ownsRow_cell HO1.out hi rfl
    obtain ⟨g2, e2, _, c2⟩ := ownsRow_cell ho2 hi rfl
    exact ⟨g1, g2, e1, e2, cell_fr hf2 c1 (by simp), c2⟩
  have hdr : ∀ k, Fr [] w2 (w2.drewN k) := fun k => ⟨rfl, rfl, rfl, Nat.le_refl _, fun _ _ _ => rfl⟩
  have cC : ∀ k, Calls Try.prog 37 #[.pointer (some ⟨p, 0, none⟩)] (w2.drewN k) fun e w'' => e = .returned (.int .i64 c) ∧ ∃ j, w'' = w2.drewN j := fun k => (calls_calls (w2.drewN k) p l m n q c f d ls wt (hD2.keep (hdr k) (by simp) (by simp) (by simp))).mono fun _ _ ⟨h1, h2⟩ => ⟨h1, k, h2.symm⟩
  have cN : ∀ k, Calls Try.prog 10 #[.pointer (some ⟨p, 0, none⟩)] (w2.drewN k) fun e w'' => e = .returned (.bool d) ∧ ∃ j, w'' = w2.drewN j := fun k => (dead_calls (w2.drewN k) p l m n q c f d ls wt (hD2.keep (hdr k) (by simp) (by simp) (by simp))).mono fun _ _ ⟨h1, h2⟩ => ⟨h1, k, h2.symm⟩
  have cS : ∀ k, Calls Try.prog 30 #[.pointer (some ⟨p, 0, none⟩)] (w2.drewN k) fun e w'' => e = .returned (.int .i64 n) ∧ ∃ j, w'' = w2.drewN j := fun k => (size_calls (w2.drewN k) p l m n q c f d ls wt (hD2.keep (hdr k) (by simp) (by simp) (by simp))).mono fun _ _ ⟨h1, h2⟩ => ⟨h1, k, h2.symm⟩
  clear hdr
  have HC := Lib.hid hcells; have HD2 := Lib.hid hD2; have HR2 := Lib.hid hR2; have HF2 := Lib.hid (HF1.out.trans hf2)
  clear ho2 hks hD2 hR2 hf2 hcells HO1
  go_wp2_with fail
  go_quiet (first | exact cC _ | exact cN _ | exact cS _)
  go_wp2_with fail
  clear cC cN cS hc2
  go_loopw [7] (fun v wr => ∃ i : Nat, i ≤ ks.length ∧ v = .int .i64 i ∧ Fr [] w2 wr) (fun v _ => ks.length - (intOf v).toNat)
  case atStart => exact ⟨0, by omega, rfl, ⟨rfl, rfl, rfl, Nat.le_refl _, fun _ _ _ => rfl⟩⟩
  case round =>
    obtain ⟨i, hi, rfl, hFr⟩ := hrel
    by_cases hlt : i < ks.length
    · obtain ⟨g1, g2, rfl, rfl, c1, c2⟩ := HC.out i hlt
      have k1 := cell_fr hFr c1 (by simp)
      have k2 := cell_fr hFr c2 (by simp)
      have HFr := Lib.hid hFr
      clear hFr c1 c2
      go_wp2_with fail
      go_quiet (fail)
      go_wp2_with fail
      go_roundw
      case rel => exact ⟨i + 1, by omega, by go_num, HFr.out.trans ⟨rfl, rfl, rfl, Nat.le_refl _, fun _ _ _ => rfl⟩⟩
      case measure => simp [intOf]; omega
    · obtain hii : i = ks.length := by omega
      go_wp2_with fail
      go_ret
      exact ⟨rfl, HF2.out.trans hFr⟩
end Go.Proofs.Ythjoakgcmelhmaa
