/-
  The document's own Meet; two lists that are one.
-/
import Derived.Test.YtdbhppfpalpfmaaLabRJ
namespace Go.Proofs.Ytdbhppfpalpfmaa
open Go.RowKit Go.MapKept
set_option maxRecDepth 100000 in
set_option maxHeartbeats 1000000 in
/-- Two slices that read alike are one list to the document. -/
theorem sameset_yes (w : World) (a1 a2 : Option Addr) (c1 c2 : Nat) (zs : List Int) (h1 : RdI w a1 c1 zs) (h2 : RdI w a2 c2 zs) :
    Calls Try.prog 13 #[.slice a1 zs.length c1, .slice a2 zs.length c2] w fun e w' => e = .returned (.bool true) ∧ Fr [] w w' := by
  have hb := h1.big
  have hat1 := fun w' (hf : Fr [] w w') k hk => (h1.keep hf).cellAt (k := k) hk
  have hat2 := fun w' (hf : Fr [] w w') k hk => (h2.keep hf).cellAt (k := k) hk
  have HAT1 := Lib.hid hat1; have HAT2 := Lib.hid hat2
  clear h1 h2 hat1 hat2
  obtain ⟨n, hn⟩ : ∃ n, zs.length = n := ⟨_, rfl⟩
  rw [hn] at hb HAT1 HAT2 ⊢
  clear hn
  go_enter Try.func13, Try.ntmps13
  go_wp2
  go_loopw [5] (fun v5 wr => ∃ k : Nat, k ≤ n ∧ v5 = .int .i64 k ∧ Hid (Fr [] w wr)) (fun v5 _ => n - (intOf v5).toNat)
  case atStart => exact ⟨0, by omega, rfl, Lib.hid (Fr.refl _ _)⟩
  case round =>
    obtain ⟨k, hk, rfl, HF⟩ := hrel
    by_cases hlt : k < n
    · obtain ⟨b, off, rfl, hcell, hall⟩ := HAT1.out wr HF.out k hlt
      clear hall
      obtain ⟨b', off', rfl, hcell', hall⟩ := HAT2.out wr HF.out k hlt
      clear hall
      obtain ⟨x, hx⟩ : ∃ x, zs.getD k 0 = x := ⟨_, rfl⟩
      rw [hx] at hcell hcell'
      clear hx
      go_wp2
      go_quiet (fail)
      have HF' := Lib.hid (HF.out.drewN nq)
      go_wp2
      go_roundw
      case rel => exact ⟨k + 1, by omega, by go_num, HF'⟩
      case measure => simp [intOf]; omega
    · obtain rfl : k = n := by omega
      go_wp2
      go_ret
      exact ⟨rfl, HF.out⟩
def meetF (a b : List Int) : List Int := a.filter fun x => hasB b x
theorem meetF_snoc (a b : List Int) (k : Nat) (hk : k < a.length) : meetF (a.take (k + 1)) b = meetF (a.take k) b ++ (if hasB b (a.getD k 0) = true then [a.getD k 0] else []) := by
  unfold meetF
  rw [take_snoc a k hk, List.filter_append]
  congr 1
  simp only [List.filter_cons, List.filter_nil]
theorem meetF_len (a b : List Int) (k : Nat) : (meetF (a.take k) b).length ≤ k := Nat.le_trans (List.length_filter_le _ _) (List.length_take_le _ _)
theorem meetF_eq {a b : List Int} (ha : a.Pairwise (· < ·)) (hb : asc b) : meetF a b = meetB a b := by
  refine lt_ext (ha.sublist List.filter_sublist) (meetB_lt (asc_of_lt ha) hb) (fun x => ?_)
  rw [meetB_mem (asc_of_lt ha) hb]
  unfold meetF hasB
  rw [List.mem_filter, List.contains_iff_mem]
set_option maxRecDepth 100000 in
set_option maxHeartbeats 2000000 in
theorem rmeet_sets (w : World) (a1 a2 : Option Addr) (c1 c2 : Nat) (a b : List Int) (h1 : RdI w a1 c1 a) (h2 : RdI w a2 c2 b) (sa : setB a = true) (sb : setB b = true) :
    Calls Try.prog 19 #[.slice a1 a.length c1, .slice a2 b.length c2] w fun e w' => ∃ x c, e = .returned (.slice x (meetB a b).length c) ∧ RdI w' x c (meetB a b) ∧ Fr [] w w' := by
  obtain ⟨i0, hi, hz0, hz1, hz2⟩ := info_parts (show (Try.prog.info? 3).map (fun i => (i.zero, i.size, i.bytes)) = some (some (.int .i64 0), 1, 8) by kernel_rfl)
  have hs1 := fun w' (hf : Fr [] w w') => rset_calls w' a1 c1 a (h1.keep hf)
  have hs2 := fun w' (hf : Fr [] w w') => rset_calls w' a2 c2 b (h2.keep hf)
  rw [sa] at hs1
  rw [sb] at hs2
  have hla := setB_len sa
  have hat := fun w' (hf : Fr [] w w') k hk => (h1.keep hf).cellAt (k := k) hk
  have hhas := fun w' (hf : Fr [] w w') x => has_calls w' a2 c2 b x (h2.keep hf)
  have hsn := meetF_snoc a b
  have hml := meetF_len a b
  have hend : meetF (a.take a.length) b = meetB a b := by rw [List.take_length]; exact meetF_eq (setB_lt sa) (setB_asc sb)
  have HI := Lib.hid hi; have HZ0 := Lib.hid hz0; have HZ1 := Lib.hid hz1; have HZ2 := Lib.hid hz2
  have HS1 := Lib.hid hs1; have HS2 := Lib.hid hs2; have HAT := Lib.hid hat; have HH := Lib.hid hhas; have HSN := Lib.hid hsn; have HML := Lib.hid hml; have HEND := Lib.hid hend
  clear hi hz0 hz1 hz2 hs1 hs2 hat hhas hsn hml hend h1 h2 sa sb
  obtain ⟨n, hn⟩ : ∃ n, a.length = n := ⟨_, rfl⟩
  obtain ⟨n2, hn2⟩ : ∃ n, b.length = n := ⟨_, rfl⟩
  rw [hn] at hla HS1 HAT HSN HEND ⊢
  rw [hn2] at HS2 HH ⊢
  clear hn hn2
  go_enter Try.func19, Try.ntmps19
  go_wp2_with fail
  go_loopw [5, 6] (fun v5 v6 wr => ∃ (k : Nat) (v : Value), k ≤ n ∧ v6 = .int .i64 k ∧ v = v5 ∧ Hid (wr.ownsRow w.heap.size 3 1 v (meetF (a.take k) b).length ((meetF (a.take k) b).map (Value.int .i64))) ∧ Hid (Fr [] w wr)) (fun _ v6 _ => n - (intOf v6).toNat)
  case atStart => exact ⟨0, _, by omega, rfl, rfl, Lib.hid (by simpa [meetF] using World.ownsRow_nil _ _ _ _), Lib.hid (Fr.refl _ _)⟩
  case round =>
    obtain ⟨k, v5, hk, rfl, rfl, HOW, HFR⟩ := hrel
    by_cases hlt : k < n
    · have hs1 := HS1.out wr HFR.out
      go_wp2_with fail
      refine hs1.mono ?_
      rintro e w1 ⟨rfl, q1, hw1⟩
      have hf1 : Fr [] w w1 := by rw [hw1]; exact HFR.out.drewN q1
      have ho1 : w1.ownsRow w.heap.size 3 1 v5 (meetF (a.take k) b).length ((meetF (a.take k) b).map (Value.int .i64)) := by rw [hw1]; exact HOW.out
      have hs2 := HS2.out w1 hf1
      have HF1 := Lib.hid hf1; have HO1 := Lib.hid ho1
      clear hw1 hs1 hf1 ho1 HOW HFR
      go_wp2_with fail
      refine hs2.mono ?_
      rintro e w2 ⟨rfl, q2, hw2⟩
      have hf2 : Fr [] w w2 := by rw [hw2]; exact HF1.out.drewN q2
      have ho2 : w2.ownsRow w.heap.size 3 1 v5 (meetF (a.take k) b).length ((meetF (a.take k) b).map (Value.int .i64)) := by rw [hw2]; exact HO1.out
      obtain ⟨b0, off, rfl, hcell, hall⟩ := HAT.out w2 hf2 k hlt
      clear hall
      have hsn := HSN.out k hlt
      have hml := HML.out k
      have hsz := hf2.size
      obtain ⟨x, hx⟩ : ∃ x, a.getD k 0 = x := ⟨_, rfl⟩
      rw [hx] at hcell hsn
      have hhas := HH.out w2 hf2 x
      generalize meetF (a.take k) b = g at *
      have HF2 := Lib.hid hf2; have HO2 := Lib.hid ho2
      clear hw2 hs2 hf2 ho2 HO1 HF1 hx
      by_cases hb : hasB b x = true
      · rw [hb] at hhas hsn
        rw [if_pos rfl] at hsn
        have HS := Lib.hid hsn; have HX := Lib.hid hhas
        clear hsn hhas hb
        go_wp2_with fail
        refine HX.out.mono ?_
        rintro e w' ⟨rfl, rfl⟩
        go_wp2_with (first
          | (at_builtin; refine wpList_append_own _ rfl _ _ 22 rfl w.heap.size 3 i0 (.int .i64 0) 1 8 Try.underlying22 HI.out HZ0.out HZ1.out HZ2.out rfl (by decide) _ _ _ rfl (HO2.out.alloc _) ⟨w2.heap.size, 0, none⟩ 1 1 [.int .i64 x] rfl rfl (cell_one_new _ _ _) (by simp [Value.oneCell']) (by unfold maxLen; omega) (by omega) (by simp; omega) ?_)
          | fail)
        intro v' w4 hown' hgrow _
        have HFA := Lib.hid ((HF2.out.alloc (.cells #[.int .i64 x] 3)).grew (HO2.out.alloc _) hgrow (Nat.le_refl _))
        have HOA := Lib.hid hown'
        clear hown' hgrow
        go_wp2_with fail
        go_roundw
        case rel => exact ⟨k + 1, _, by omega, by go_num, rfl, Lib.hid (by rw [HS.out]; simpa using HOA.out), HFA⟩
        case measure => simp [intOf]; omega
      · have hb' : hasB b x = false := by simpa using hb
        rw [hb'] at hhas hsn
        rw [if_neg (by simp), List.append_nil] at hsn
        have HS := Lib.hid hsn; have HX := Lib.hid hhas
        clear hsn hhas hb hb'
        go_wp2_with fail
        refine HX.out.mono ?_
        rintro e w' ⟨rfl, rfl⟩
        go_wp2_with fail
        go_roundw
        case rel => exact ⟨k + 1, _, by omega, by go_num, rfl, Lib.hid (by rw [HS.out]; exact HO2.out), HF2⟩
        case measure => simp [intOf]; omega
    · obtain rfl : k = n := by omega
      rw [HEND.out] at HOW
      have hml := HML.out k
      rw [HEND.out] at hml
      obtain ⟨x, c, rfl, hr, _⟩ := own_rdI2 HOW.out (by omega)
      have HR := Lib.hid hr
      clear hr HOW
      go_wp2_with fail
      go_ret
      exact ⟨x, c, rfl, HR.out, HFR.out⟩
theorem fr_draw {P : Program} {f : FuncId} {args : Array Value} {w : World} {v : Value} (h : Calls P f args w fun e w' => e = .returned v ∧ ∃ q, w' = w.drewN q) : Calls P f args w fun e w' => e = .returned v ∧ Fr [] w w' :=
  h.mono fun e w' ⟨he, q, hq⟩ => ⟨he, by rw [hq]; exact (Fr.refl [] w).drewN q⟩
end Go.Proofs.Ytdbhppfpalpfmaa
