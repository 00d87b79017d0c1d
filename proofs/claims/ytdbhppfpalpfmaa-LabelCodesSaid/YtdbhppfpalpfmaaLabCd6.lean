/-
  Encode: the code's and the document's.
-/
import Derived.Test.YtdbhppfpalpfmaaLabCd1
import Derived.Test.YtdbhppfpalpfmaaLabCd3
import Derived.Test.YtdbhppfpalpfmaaLabDb
import Derived.Test.YtdbhppfpalpfmaaLabS
import Derived.Lib.QuietBelow
import Derived.BigQuiet
namespace Go.Proofs.Ytdbhppfpalpfmaa
open Go.RowKit Go.MapKept
set_option maxRecDepth 100000 in
set_option maxHeartbeats 4000000 in
theorem enc_yes (w : World) (a1 a2 : Option Addr) (c1 c2 : Nat) (s i : List Int) (h1 : RdI w a1 c1 s) (h2 : RdI w a2 c2 i) (s1 : setB s = true) (s2 : setB i = true) :
    Calls Try.prog 40 #[.agg #[.slice a1 s.length c1, .slice a2 i.length c2]] w fun e w' => ∃ v n, e = .returned (.tuple #[v, .int .i64 0]) ∧ w'.ownsRow w.heap.size 5 1 v n ((codeB s ++ codeB i).map (Value.int .u8)) ∧ Fr [] w w' := by
  have hF : Fr [] w (w.alloc (.cells #[.slice a1 s.length c1, .slice a2 i.length c2] 26)) := (Fr.refl [] w).alloc _
  have HM := Lib.hid (may_calls _ a1 a2 c1 c2 s i (h1.keep hF) (h2.keep hF))
  rw [s1, s2, Bool.and_self] at HM
  have HA := Lib.hid (fun w' v n bs (ho : w'.ownsRow (w.alloc (.cells #[.slice a1 s.length c1, .slice a2 i.length c2] 26)).heap.size 5 1 v n (bs.map (Value.int .u8))) hf hn => appendSet_calls _ w' v n bs a1 c1 s ho hf hn (h1.keep hF) (setB_len s1))
  have HB := Lib.hid (fun w' v n bs (ho : w'.ownsRow (w.alloc (.cells #[.slice a1 s.length c1, .slice a2 i.length c2] 26)).heap.size 5 1 v n (bs.map (Value.int .u8))) hf hn => appendSet_calls _ w' v n bs a2 c2 i ho hf hn (h2.keep hF) (setB_len s2))
  have HC : Hid (∀ w', Fr [] (w.alloc (.cells #[.slice a1 s.length c1, .slice a2 i.length c2] 26)) w' → w'.cell? ⟨w.heap.size, 0, none⟩ = some (.slice a1 s.length c1) ∧ w'.cell? ⟨w.heap.size, 1, none⟩ = some (.slice a2 i.length c2)) := Lib.hid (fun w' hf => by
    have hb := hf.keep (heap_alloc_last w (.cells #[.slice a1 s.length c1, .slice a2 i.length c2] 26)) (by simp)
    exact ⟨by rw [box_cell hb]; rfl, by rw [box_cell hb]; rfl⟩)
  have hcl : (codeB s).length ≤ 65 := by rw [codeB_len]; have := setB_len s1; omega
  have HF := Lib.hid hF
  have HSZ : Hid (w.heap.size ≤ (w.alloc (.cells #[.slice a1 s.length c1, .slice a2 i.length c2] 26)).heap.size) := Lib.hid (by simp)
  clear hF h1 h2 s1 s2
  generalize codeB s = cs at *
  generalize codeB i = ci at *
  generalize s.length = n1 at *
  generalize i.length = n2 at *
  obtain ⟨W0, hW0⟩ : ∃ W0, w.alloc (.cells #[.slice a1 n1 c1, .slice a2 n2 c2] 26) = W0 := ⟨_, rfl⟩
  rw [hW0] at HM HA HB HC HF HSZ
  have HW0 := Lib.hid hW0
  clear hW0
  go_enter Try.func40, Try.ntmps40
  go_wp2_with fail
  rw [HW0.out]
  clear HW0
  refine HM.out.mono ?_
  rintro e w1 ⟨rfl, hf1⟩
  have HF1 := Lib.hid hf1
  obtain ⟨hc1, hc2⟩ := HC.out w1 hf1
  clear hf1
  go_wp2_with fail
  go_region_with (first
    | (go_at_call 62; (with_reducible refine (HA.out _ _ 0 [] ?_ ?_ (by omega)).mono ?_); exact World.ownsRow_nil _ _ _ _; exact HF1.out.drew; rintro e w2 ⟨v2, rfl, ho2, hf2⟩; obtain ⟨hd1, hd2⟩ := HC.out w2 hf2)
    | (go_at_call 62; (with_reducible refine (HB.out _ _ _ _ ho2 hf2 (by omega)).mono ?_); rintro e w3 ⟨v3, rfl, ho3, hf3⟩))
  all_goals
    have HO : Hid (w3.ownsRow W0.heap.size 5 1 v3 (cs.length + ci.length) ((cs ++ ci).map (Value.int .u8))) := Lib.hid (by simpa using ho3)
    have HZ := Lib.hid (HF.out.trans hf3)
    clear ho2 ho3 hf2 hf3
    go_wp2_with fail
    go_ret2
    exact ⟨v3, _, rfl, ownsRow_lower HO.out HSZ.out, HZ.out⟩
set_option maxRecDepth 100000 in
set_option maxHeartbeats 2000000 in
theorem enc_no (w : World) (a1 a2 : Option Addr) (c1 c2 : Nat) (s i : List Int) (h1 : RdI w a1 c1 s) (h2 : RdI w a2 c2 i) (hb : (setB s && setB i) = false) :
    Calls Try.prog 40 #[.agg #[.slice a1 s.length c1, .slice a2 i.length c2]] w fun e w' => e = .returned (.tuple #[.slice none 0 0, .int .i64 1]) ∧ Fr [] w w' := by
  have hF : Fr [] w (w.alloc (.cells #[.slice a1 s.length c1, .slice a2 i.length c2] 26)) := (Fr.refl [] w).alloc _
  have HM := Lib.hid (may_calls _ a1 a2 c1 c2 s i (h1.keep hF) (h2.keep hF))
  rw [hb] at HM
  have HF := Lib.hid hF
  clear hF h1 h2 hb
  go_enter Try.func40, Try.ntmps40
  go_wp2_with fail
  refine HM.out.mono ?_
  rintro e w1 ⟨rfl, hf1⟩
  have HF1 := Lib.hid (HF.out.trans hf1)
  clear hf1
  go_wp2_with fail
  go_ret2
  exact ⟨rfl, HF1.out⟩
set_option maxRecDepth 100000 in
set_option maxHeartbeats 2000000 in
theorem renc_no (w : World) (a1 a2 : Option Addr) (c1 c2 : Nat) (s i : List Int) (h1 : RdI w a1 c1 s) (h2 : RdI w a2 c2 i) (hb : (setB s && setB i) = false) :
    Calls Try.prog 41 #[.agg #[.slice a1 s.length c1, .slice a2 i.length c2]] w fun e w' => e = .returned (.tuple #[.string ⟨#[]⟩, .int .i64 1]) ∧ Fr [] w w' := by
  have hF : Fr [] w (w.alloc (.cells #[.slice a1 s.length c1, .slice a2 i.length c2] 26)) := (Fr.refl [] w).alloc _
  have HM := Lib.hid (rmay_calls _ a1 a2 c1 c2 s i (h1.keep hF) (h2.keep hF))
  rw [hb] at HM
  have HF := Lib.hid hF
  clear hF h1 h2 hb
  go_enter Try.func41, Try.ntmps41
  go_wp2_with fail
  refine HM.out.mono ?_
  rintro e w1 ⟨rfl, hf1⟩
  have HF1 := Lib.hid (HF.out.trans hf1)
  clear hf1
  go_wp2_with fail
  go_ret2
  exact ⟨rfl, HF1.out⟩
set_option maxRecDepth 100000 in
set_option maxHeartbeats 4000000 in
theorem renc_yes (w : World) (a1 a2 : Option Addr) (c1 c2 : Nat) (s i : List Int) (h1 : RdI w a1 c1 s) (h2 : RdI w a2 c2 i) (s1 : setB s = true) (s2 : setB i = true) :
    Calls Try.prog 41 #[.agg #[.slice a1 s.length c1, .slice a2 i.length c2]] w fun e w' => e = .returned (.tuple #[.string (⟨(toU (codeB s)).toArray⟩ ++ ⟨(toU (codeB i)).toArray⟩), .int .i64 0]) ∧ Fr [] w w' := by
  have hF : Fr [] w (w.alloc (.cells #[.slice a1 s.length c1, .slice a2 i.length c2] 26)) := (Fr.refl [] w).alloc _
  have HM := Lib.hid (rmay_calls _ a1 a2 c1 c2 s i (h1.keep hF) (h2.keep hF))
  rw [s1, s2, Bool.and_self] at HM
  have HA : Hid (∀ w', Fr [] (w.alloc (.cells #[.slice a1 s.length c1, .slice a2 i.length c2] 26)) w' → Calls Try.prog 63 #[.slice a1 s.length c1] w' _) := Lib.hid (fun w' hf => code_calls w' a1 c1 s (h1.keep (hF.trans hf)) (setB_len s1))
  have HB : Hid (∀ w', Fr [] (w.alloc (.cells #[.slice a1 s.length c1, .slice a2 i.length c2] 26)) w' → Calls Try.prog 63 #[.slice a2 i.length c2] w' _) := Lib.hid (fun w' hf => code_calls w' a2 c2 i (h2.keep (hF.trans hf)) (setB_len s2))
  have HC : Hid (∀ w', Fr [] (w.alloc (.cells #[.slice a1 s.length c1, .slice a2 i.length c2] 26)) w' → w'.cell? ⟨w.heap.size, 0, none⟩ = some (.slice a1 s.length c1) ∧ w'.cell? ⟨w.heap.size, 1, none⟩ = some (.slice a2 i.length c2)) := Lib.hid (fun w' hf => by
    have hb := hf.keep (heap_alloc_last w (.cells #[.slice a1 s.length c1, .slice a2 i.length c2] 26)) (by simp)
    exact ⟨by rw [box_cell hb]; rfl, by rw [box_cell hb]; rfl⟩)
  have HF := Lib.hid hF
  have z1 : (⟨(toU (codeB s)).toArray⟩ : ByteArray).size ≤ 65 := by
    have := setB_len s1
    show (toU (codeB s)).toArray.size ≤ 65
    simp [toU, codeB_len]; omega
  have z2 : (⟨(toU (codeB i)).toArray⟩ : ByteArray).size ≤ 65 := by
    have := setB_len s2
    show (toU (codeB i)).toArray.size ≤ 65
    simp [toU, codeB_len]; omega
  clear hF h1 h2 s1 s2
  generalize (⟨(toU (codeB s)).toArray⟩ : ByteArray) = cs at *
  generalize (⟨(toU (codeB i)).toArray⟩ : ByteArray) = ci at *
  generalize s.length = n1 at *
  generalize i.length = n2 at *
  go_enter Try.func41, Try.ntmps41
  go_wp2_with fail
  refine HM.out.mono ?_
  rintro e w1 ⟨rfl, hf1⟩
  have HF1 := Lib.hid hf1
  clear hf1
  go_wp2_with fail
  obtain ⟨hc1, hc2⟩ := HC.out w1 HF1.out
  have q1 := cell_regrown hc1; have q2 := cell_regrown hc2
  have ka := quiet_of_fr HF1.out HA.out
  have kb := quiet_of_fr HF1.out HB.out
  clear hc1 hc2
  have z3 : ¬ IntKind.i64.max < ((cs.size : Int) + (ci.size : Int)) := by
    show ¬ (9223372036854775807 : Int) < _
    omega
  have z4 : ¬ (9223372036854775807 : Int) < ((cs.size : Int) + (ci.size : Int)) := z3
  refine wp_region_quiet_below (by kernel_rfl) (by kernel_rfl) ?_
  repeat (go_big_quiet_step (with_reducible (first | exact ka _ _ | exact kb _ _)))
  refine wpQuiet_nil ?_
  intro _ hw'
  obtain ⟨⟨dq, osq⟩, hw''⟩ := hw'
  subst hw''
  have HZ := Lib.hid ((HF.out.trans HF1.out).trans (fr_regrown w1 dq osq))
  clear ka kb q1 q2 HA HB HC
  go_wp2_with fail
  go_ret2
  exact ⟨rfl, HZ.out⟩
end Go.Proofs.Ytdbhppfpalpfmaa
