/-
  For every salt, pass and number of times, HashMany returns true and leaves its arguments as they were (the table of the rounds' words laid as the program's text lays it).
-/
import Derived.Test.YthegllpmefilkaaDoorCards
import Derived.Test.YthegllpmefilkaaDoorTie
import Derived.Test.YthegllpmefilkaaDoorStretch
import Derived.Test.YthegllpmefilkaaDoorTab
import Derived.Test.YthegllpmefilkaaDoorMask
import Derived.ProofKit
import Derived.OpenShut
import Derived.ShutString
import Derived.SizedLaws
import Derived.Deep.DeepHandedRow
import Derived.Lib.LaidTab
namespace Go.Proofs.YthegllpmefilkaaDoor.hashMany
open Go.ChangeShapes Go.WideShapes Go.ChangeAt Go.RowKit Go.MapKept
open Go.ChangeMaps (open_string shut_string)
set_option linter.unusedVariables false
theorem beq_self (s : ByteArray) : (s == s) = true := (bytes_beq s s).2 rfl
set_option maxRecDepth 100000 in
set_option maxHeartbeats 4000000 in
theorem walk (w : World) (salt pass : List UInt8) (t : Int) (h0 : salt.length ≤ 140737488351232) (h1 : pass.length ≤ 140737488351232) (hT : TabAt w) :
    Calls Tryd.prog 7 #[.string ⟨salt.toArray⟩, .string ⟨pass.toArray⟩, .int .i64 t] w fun e w' => e = .returned (.bool true) ∧ Fr [] w w' := by
  have HT := Lib.hid hT; clear hT
  obtain ⟨K, hK⟩ : ∃ K, bits BinOp.and IntKind.i64 t 63 = K := ⟨_, rfl⟩
  have hK0 : 0 ≤ K ∧ K ≤ 63 := by rw [← hK, mask63]; omega
  obtain ⟨ns, hns⟩ : ∃ n, salt.length = n := ⟨_, rfl⟩
  obtain ⟨np, hnp⟩ : ∃ n, pass.length = n := ⟨_, rfl⟩
  rw [hns] at h0
  rw [hnp] at h1
  by_cases hb : 100 < ns + np
  · have hb' : (100 : Int) < (ns : Int) + np := by omega
    clear hb
    go_enter Tryd.func7, Tryd.ntmps7
    go_wp2_with fail
    refine (awake_calls w HT.out).mono ?_
    rintro e w7 ⟨rfl, hf7⟩
    go_wp2_with fail
    go_ret
    exact ⟨rfl, hf7⟩
  · have hb' : ¬ (100 : Int) < (ns : Int) + np := by omega
    by_cases h50 : 50 < K
    · go_enter Tryd.func7, Tryd.ntmps7
      go_wp2_with fail
      refine (awake_calls w HT.out).mono ?_
      rintro e w7 ⟨rfl, hf7⟩
      go_wp2_with fail
      go_ret
      exact ⟨rfl, hf7⟩
    · obtain ⟨Kn, hKn⟩ : ∃ n : Nat, K = n := ⟨K.toNat, by omega⟩
      subst hKn
      have hK51 : (Kn : Int) ≤ 50 := by omega
      have hl : ns + np ≤ 100 := by omega
      have HNS := Lib.hid hns; have HNP := Lib.hid hnp
      obtain ⟨m1, hm1⟩ : ∃ m, salt ++ [0] = m := ⟨_, rfl⟩
      obtain ⟨m0, hm0⟩ : ∃ m, m1 ++ pass = m := ⟨_, rfl⟩
      have l1 : m1.length = ns + 1 := by rw [← hm1]; simp [hns]
      have l0 : m0.length = ns + 1 + np := by rw [← hm0, List.length_append, l1, hnp]
      have hst0 : stB salt pass 0 = shaB m0 := by rw [← hm0, ← hm1]; rfl
      have hst : ∀ k, stB salt pass (k + 1) = shaB (stB salt pass k ++ salt ++ pass) := fun k => by rw [List.append_assoc]; rfl
      have hstr := fun w1 (h : Fr [] w w1) => stretch_calls w1 salt pass (Kn : Int) Kn (by omega) (by omega) (by omega) (HT.out.keep h (by simp))
      have HM1 := Lib.hid hm1; have HM0 := Lib.hid hm0
      have L1 := Lib.hid l1; have L0 := Lib.hid l0
      have HS0 := Lib.hid hst0; have HST := Lib.hid hst; have HSTR := Lib.hid hstr
      have HSL : Hid (∀ k, (stB salt pass k).length = 32) := Lib.hid (stB_length salt pass)
      generalize stB salt pass = st at *
      clear hm1 hm0 l1 l0 hst0 hst hstr hb h50
      have hsame := beq_self ⟨(hexB (st Kn)).toArray⟩
      go_enter Tryd.func7, Tryd.ntmps7
      go_wp2_with (first
        | ((with_reducible_and_instances refine id (α := wpList _ _ _ (⟨some 23, .binOp _ _ _ _ _, _, _, _, _⟩ :: _) _ _) ?_); refine wL_cat rfl _ _ _ _ rfl salt [0] rfl rfl (by rw [HNS.out]; simp; omega) m1 HM1.out ?_)
        | ((with_reducible_and_instances refine id (α := wpList _ _ _ (⟨some 25, .binOp _ _ _ _ _, _, _, _, _⟩ :: _) _ _) ?_); refine wL_cat rfl _ _ _ _ rfl m1 pass rfl rfl (by rw [L1.out, HNP.out]; omega) m0 HM0.out ?_)
        | ((with_reducible_and_instances refine id (α := wpList _ _ _ (⟨some 26, .convert _ _ _, _, _, _, _⟩ :: _) _ _) ?_); refine wL_bytesOf rfl 9 23 5 _ rfl Tryd.underlying9 Tryd.underlying23 Tryd.underlying5 m0 (ns + 1 + np) L0.out rfl (by rw [L0.out]; unfold maxLen; omega) ?_)
        | fail)
      intro c1 w1 hf1 hr1 _ hc1 hc2
      have hsh := sha_calls w1 (some ⟨w.heap.size, 0, none⟩) c1 m0 ⟨by rw [L0.out]; exact hc1, hc2, by rw [L0.out]; omega, (fun h => by cases h), (fun a ha => by cases ha; exact ⟨_, 0, rfl, hr1⟩)⟩ (HT.out.keep hf1 (by simp))
      rw [L0.out, ← HS0.out] at hsh
      have HSH := Lib.hid hsh; have HF1 := Lib.hid hf1
      clear hsh hf1 hr1
      go_wp2_with fail
      refine HSH.out.mono ?_
      rintro e w2 ⟨v, rfl, hown, hf2⟩
      have hown0 : w2.ownsRow w.heap.size 5 1 v 32 (cel (st 0)) := by rw [← HSL.out 0]; exact ownsRow_lower hown HF1.out.size
      have HOW := Lib.hid hown0; have HF2 := Lib.hid (HF1.out.trans hf2)
      clear hown hown0 hf2 HSH HF1 hc1 hc2
      go_wp2_with fail
      go_loopw [7, 8] (fun v7 v8 wr => ∃ k : Nat, k ≤ Kn ∧ v8 = .int .i64 k ∧ Fr [] w wr ∧ wr.ownsRow w.heap.size 5 1 v7 32 (cel (st k))) (fun _ v8 _ => Kn - (intOf v8).toNat)
      case atStart => exact ⟨0, by omega, rfl, HF2.out, HOW.out⟩
      case round =>
        clear HF2 HOW
        obtain ⟨k, hk, rfl, hfr, hown⟩ := hrel
        by_cases hlt : k < Kn
        · obtain ⟨n1, hn1⟩ : ∃ m, st k ++ salt = m := ⟨_, rfl⟩
          obtain ⟨n2, hn2⟩ : ∃ m, n1 ++ pass = m := ⟨_, rfl⟩
          have ln1 : n1.length = 32 + ns := by rw [← hn1, List.length_append, HSL.out, HNS.out]
          have ln2 : n2.length = 32 + ns + np := by rw [← hn2, List.length_append, ln1, HNP.out]
          have hnx : st (k + 1) = shaB n2 := by rw [HST.out, hn1, hn2]
          have hsl : (st k).length + salt.length ≤ 9223372036854775807 := by rw [HSL.out, HNS.out]; omega
          obtain ⟨sk, hsk⟩ : ∃ s, st k = s := ⟨_, rfl⟩
          rw [hsk] at hown hn1 hsl
          have HN1 := Lib.hid hn1; have HN2 := Lib.hid hn2; have LN1 := Lib.hid ln1; have LN2 := Lib.hid ln2; have HNX := Lib.hid hnx; have HSS := Lib.hid hsl
          have HFR := Lib.hid hfr; have HOW := Lib.hid hown
          clear hn1 hn2 ln1 ln2 hnx hsl hsk hfr hown
          go_wp2_with (first
            | ((with_reducible_and_instances refine id (α := wpList _ _ _ (⟨some 34, .convert _ _ _, _, _, _, _⟩ :: _) _ _) ?_); refine wL_ownString rfl 23 9 5 (.tmp 33) rfl Tryd.underlying23 Tryd.underlying5 Tryd.underlying9 _ rfl _ _ _ _ HOW.out ?_)
            | ((with_reducible_and_instances refine id (α := wpList _ _ _ (⟨some 36, .binOp _ _ _ _ _, _, _, _, _⟩ :: _) _ _) ?_); refine wL_cat rfl _ _ _ _ rfl sk salt rfl rfl HSS.out n1 HN1.out ?_)
            | ((with_reducible_and_instances refine id (α := wpList _ _ _ (⟨some 38, .binOp _ _ _ _ _, _, _, _, _⟩ :: _) _ _) ?_); refine wL_cat rfl _ _ _ _ rfl n1 pass rfl rfl (by rw [LN1.out, HNP.out]; omega) n2 HN2.out ?_)
            | ((with_reducible_and_instances refine id (α := wpList _ _ _ (⟨some 39, .convert _ _ _, _, _, _, _⟩ :: _) _ _) ?_); refine wL_bytesOf rfl 9 23 5 _ rfl Tryd.underlying9 Tryd.underlying23 Tryd.underlying5 n2 (32 + ns + np) LN2.out rfl (by rw [LN2.out]; unfold maxLen; omega) ?_)
            | fail)
          intro c3 w3 hf3 hr3 _ hc3 hc4
          have hsh := sha_calls w3 (some ⟨wr.heap.size, 0, none⟩) c3 n2 ⟨by rw [LN2.out]; exact hc3, hc4, by rw [LN2.out]; omega, (fun h => by cases h), (fun a ha => by cases ha; exact ⟨_, 0, rfl, hr3⟩)⟩ (HT.out.keep (HFR.out.trans hf3) (by simp))
          rw [LN2.out, ← HNX.out] at hsh
          have HSH := Lib.hid hsh; have HF3 := Lib.hid (HFR.out.trans hf3)
          clear hsh hf3 hr3
          go_wp2_with fail
          refine HSH.out.mono ?_
          rintro e w4 ⟨v', rfl, hown, hf4⟩
          have hown' : w4.ownsRow w.heap.size 5 1 v' 32 (cel (st (k + 1))) := by rw [← HSL.out (k + 1)]; exact ownsRow_lower hown HF3.out.size
          have HOW' := Lib.hid hown'; have HF4 := Lib.hid (HF3.out.trans hf4)
          clear hown hown' hf4 HSH HOW
          go_wp2_with fail
          go_roundw
          case rel => exact ⟨k + 1, by omega, by go_num, HF4.out, HOW'.out⟩
          case measure => simp [intOf]; omega
        · obtain rfl : k = Kn := by omega
          obtain ⟨ad, cap, hv, hrd⟩ := own_reads hown (by rw [HSL.out]; decide)
          rw [HSL.out] at hv
          subst hv
          have HFR := Lib.hid hfr; have HRD := Lib.hid hrd
          clear hfr hown hrd
          go_wp2_with fail
          refine (HSTR.out wr HFR.out).mono ?_
          rintro e w5 ⟨rfl, hf5⟩
          have hx := hex_calls w5 ad cap (st k) (HRD.out.keep hf5) (by rw [HSL.out]; decide)
          rw [HSL.out] at hx
          have HX := Lib.hid hx; have HF5 := Lib.hid (HFR.out.trans hf5)
          clear hf5 hx
          go_wp2_with fail
          refine HX.out.mono ?_
          rintro e w6 ⟨rfl, hf6⟩
          have HF6 := Lib.hid (HF5.out.trans hf6)
          have HAW := Lib.hid (awake_calls w6 (HT.out.keep HF6.out (by simp)))
          clear hf6 HX
          go_wp2_with fail
          refine HAW.out.mono ?_
          rintro e w7 ⟨rfl, hf7⟩
          have HF7 := Lib.hid (HF6.out.trans hf7); clear hf7
          go_wp2_with fail
          go_ret
          exact ⟨rfl, HF7.out⟩
/-! ### The row, and its card -/
theorem contract (H : Type) (enc : TypeId × Value → H) (W : World) (base : Nat) (args : Array Value) (ds gs : List (DataW H)) (before : List MemPlace)
    (hval0 : ∀ (j : Nat) t v, Tryd.f7.params[j]? = some t → args[j]? = some v → Value.okWide Tryd.prog W .any base t v)
    (hW : DataW.Whole enc Tryd.prog Tryd.f7.params.toList Rows.hashManySpec.vars false W args.toList ds gs before)
    (hsz : (DataW.weightsEach Tryd.prog (Tryd.f7.params.toList ++ (OpenSpec.ofChange Rows.hashManySpec).bare.plain.varTypes Tryd.prog) (ds ++ gs)).all (· ≤ reachBytes) = true)
    (hL : laidMetH Tryd.prog Rows.hashManyRow.laid W) :
    Calls Tryd.prog 7 args W fun e W' => ∃ v, e = .returned v ∧ Rows.hashManySpec.post enc Tryd.prog Tryd.f7 false true false false W args v W' := by
  have hval : ∀ (j : Nat) t v, Tryd.f7.params[j]? = some t → args[j]? = some v → Value.okWide Tryd.prog W .any base t v := hval0
  have hW' := hW
  obtain ⟨p, q, hA0, hV, rfl, hfz, hnd⟩ := hW
  have hA : DataW.TrodAll enc Tryd.prog W 0 (fun _ => true) true Tryd.f7.params.toList args.toList ds p := hA0
  rw [Tryd.params7] at hA hval hsz
  obtain ⟨v0, vs0, d0, ds0, p0, q0, hargs, rfl, rfl, h0, r0⟩ := trodAll_cons hA
  obtain ⟨v1, vs1, d1, ds1, p1, q1, rfl, rfl, rfl, h1, r1⟩ := trodAll_cons r0
  obtain ⟨v2, vs2, d2, ds2, p2, q2, rfl, rfl, rfl, h2, r2⟩ := trodAll_cons r1
  obtain ⟨rfl, rfl, rfl⟩ := trodAll_nil r2
  obtain rfl : args = #[v0, v1, v2] := by cases args; simp_all
  obtain ⟨rfl, rfl⟩ := trodVars_none hV
  obtain ⟨s0, rfl, rfl, rfl, w0⟩ := open_string Tryd.underlying9 (hval 0 9 v0 rfl rfl) h0
  obtain ⟨s1, rfl, rfl, rfl, w1⟩ := open_string Tryd.underlying9 (hval 1 9 v1 rfl rfl) h1
  obtain ⟨a2, rfl, rfl, rfl, w2⟩ := open_int Tryd.underlying3 (hval 2 3 v2 rfl rfl) h2
  have z0 : s0.data.toList.length ≤ 140737488351232 := sized_string hsz (j := 0) rfl rfl
  have z1 : s1.data.toList.length ≤ 140737488351232 := sized_string hsz (j := 1) rfl rfl
  clear hA0 hval0
  refine (walk W s0.data.toList s1.data.toList a2 z0 z1 (tab.tabAt hL)).mono fun e W' ⟨he, hfr⟩ => ?_
  subst he
  have bel : Below W.heap.size W W' := hfr.below (Nat.le_refl _) (by simp)
  exact ⟨_, rfl, _, _, _, [], _, [], hW', trodAll_mk1 (shut_bool Tryd.underlying4 _), (trodAll_cons_mk (shut_string Tryd.underlying9 w0) (trodAll_cons_mk (shut_string Tryd.underlying9 w1) (trodAll_cons_mk (shut_int Tryd.underlying3 w2) trodAll_mk0))), rfl, bel.frame _, fun h => by cases h⟩
theorem laid_met (os : Os) : laidMet Tryd.prog Rows.hashManyRow.laid (((tab.laidWorld os).forCall (fun _ _ => 0) ⟨#[], #[.string ⟨#[]⟩, .string ⟨#[]⟩, .int .i64 0], []⟩).memory) :=
  laidMet_of_run' 8 (by kernel_rfl) (by kernel_rfl)
theorem reads (os : Os) {H : Type} (enc : TypeId × Value → H) : ∃ places, DataW.whole enc Tryd.prog ((tab.laidWorld os).forCall (fun _ _ => 0) ⟨#[], #[.string ⟨#[]⟩, .string ⟨#[]⟩, .int .i64 0], []⟩).memory Tryd.f7.params.toList Rows.hashManySpec.vars false #[Value.string ⟨#[]⟩, .string ⟨#[]⟩, .int .i64 0].toList 8 = some ([.lit (.string []), .lit (.string []), .lit (.int .i64 0)], [], places) :=
  ⟨[], by kernel_rfl⟩
set_option maxRecDepth 100000 in
theorem lifted (os : Os) (started : os.Started) (H : Type) (enc : TypeId × Value → H) (F : Stop.Interp) :
    ReturnsInHanded {} Tryd.checked os 7 .any ((OpenSpec.ofChange Rows.hashManySpec).preRow enc Tryd.prog Tryd.f7 Rows.hashManyRow.domain false Rows.hashManyRow.laid) (((OpenSpec.ofChange Rows.hashManySpec).at F).post enc Tryd.prog Tryd.f7 false true false false) := by
  obtain ⟨places, hx⟩ := reads os enc
  refine returnsInHanded_of_row (C := Tryd.checked) (s := OpenSpec.ofChange Rows.hashManySpec) tab.own started (by kernel_rfl) Tryd.func7
    (witness_row_at (enc := enc) (C := Tryd.checked) false (tab.laidWorld os) #[.string ⟨#[]⟩, .string ⟨#[]⟩, .int .i64 0] rfl (by kernel_rfl) (by kernel_rfl) (by kernel_rfl)
      (OpenSpec.preRow_of_cond 8 hx (by kernel_rfl) (fun k hk => by cases hk) (by kernel_rfl) (laid_met os))) ?_
  intro W base args ds gs before hval hW _ _ hsz hL _ _
  exact contract H enc W base args ds gs before hval hW hsz hL
theorem said : Rows.HashManySaid :=
  OpenClaim.holds_of_cond 7 Tryd.f7 rfl rfl rfl rfl rfl rfl rfl ⟨rfl, rfl, rfl, rfl, rfl⟩ rfl rfl rfl rfl rfl (by kernel_rfl) Tryd.func7 (by kernel_rfl)
    (of_decide_eq_true (by kernel_rfl)) (by unfold Func.isWrapper; first | (rw [if_pos (by decide +kernel)]; kernel_rfl) | (rw [if_neg (by decide +kernel)]; exact ⟨rfl, rfl⟩))
    (fun os started H enc _ F => by rw [OpenClaim.pre_eq_preRow]; exact lifted os started H enc F)
theorem plain (f : FuncId) (fn : Func) (hf : Tryd.pinned.checked.prog.funcNamed "lazaret/lazaretlaw2.HashMany" = some f) (hfn : Tryd.pinned.checked.prog.funcs[f]? = some fn) :
    false = Tryd.pinned.checked.prog.looks [] ∧ ∀ (j : Nat) t, fn.params[j]? = some t → Tryd.pinned.checked.prog.wantsStandIn t = false := by
  obtain rfl : f = 7 := Option.some.inj ((show Tryd.prog.funcNamed "lazaret/lazaretlaw2.HashMany" = some 7 by kernel_rfl).symm.trans hf) |>.symm
  obtain rfl : fn = Tryd.f7 := (Option.some.inj (Tryd.func7.symm.trans hfn)).symm
  refine ⟨by kernel_rfl, fun j t ht => ?_⟩
  rw [Tryd.params7] at ht
  have hm : t = 9 ∨ t = 3 := by
    have := Array.mem_of_getElem? ht
    simp at this
    omega
  rcases hm with rfl | rfl
  · exact (show Tryd.prog.wantsStandIn 9 = false by kernel_rfl)
  · exact (show Tryd.prog.wantsStandIn 3 = false by kernel_rfl)
theorem proved : Rows.HashManyCardSaid :=
  Claim7.holds_tied_plain_at .later [] _ _ _ _ said (fun _ h => by cases h) (by kernel_rfl) (fun _ h => by cases h) hashMany_row_tie rfl ⟨rfl, rfl⟩ (by kernel_rfl) rfl plain (by kernel_rfl)
end Go.Proofs.YthegllpmefilkaaDoor.hashMany
