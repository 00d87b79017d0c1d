/-
  appendSet: a set written behind some bytes.
-/
import Derived.Test.YtdbhppfpalpfmaaLabCd0
namespace Go.Proofs.Ytdbhppfpalpfmaa
open Go.RowKit Go.MapKept
set_option maxRecDepth 100000 in
set_option maxHeartbeats 4000000 in
theorem appendSet_calls (w0 w : World) (v : Value) (n : Nat) (bs : List Int) (ad : Option Addr) (cap : Nat) (l : List Int) (hown : w.ownsRow w0.heap.size 5 1 v n (bs.map (Value.int .u8))) (hf : Fr [] w0 w) (hn : n ≤ 1000) (hr : RdI w0 ad cap l) (hl : l.length ≤ 16) :
    Calls Try.prog 62 #[v, .slice ad l.length cap] w fun e w' => ∃ v', e = .returned v' ∧ w'.ownsRow w0.heap.size 5 1 v' (n + (codeB l).length) ((bs ++ codeB l).map (Value.int .u8)) ∧ Fr [] w0 w' := by
  obtain ⟨i0, hi, hz0, hz1, hz2⟩ := info_parts (show (Try.prog.info? 5).map (fun i => (i.zero, i.size, i.bytes)) = some (some (.int .u8 0), 1, 1) by kernel_rfl)
  have hat := fun w' (hf : Fr [] w0 w') k hk => (hr.keep hf).cellAt (k := k) hk
  have hst := code_step l
  have hcl := codeB_len l
  have hcd : codeB l = (l.length : Int) :: tagsB (l.take l.length) := by rw [List.take_length]; rfl
  have HI := Lib.hid hi; have HZ0 := Lib.hid hz0; have HZ1 := Lib.hid hz1; have HZ2 := Lib.hid hz2
  have HAT := Lib.hid hat; have HST := Lib.hid hst; have HCL := Lib.hid hcl; have HCD := Lib.hid hcd
  have HO := Lib.hid hown; have HF := Lib.hid hf
  have hsz := hf.size
  clear hi hz0 hz1 hz2 hat hst hcl hcd hown hf hr
  obtain ⟨m, hm⟩ : ∃ m, l.length = m := ⟨_, rfl⟩
  rw [hm] at hl HAT HST HCL HCD ⊢
  clear hm
  go_enter Try.func62, Try.ntmps62
  go_wp2_with (first
    | (at_builtin; refine wpList_append_own _ rfl _ _ 45 rfl w0.heap.size 5 i0 (.int .u8 0) 1 1 Try.underlying45 HI.out HZ0.out HZ1.out HZ2.out rfl (by decide) v n _ rfl (HO.out.alloc _) ⟨w.heap.size, 0, none⟩ 1 1 [.int .u8 (m : Int)] rfl rfl (cell_one_new _ _ _) (by simp [Value.oneCell']) (by unfold maxLen; omega) (by omega) (by simp; omega) ?_)
    | fail)
  intro v1 w1 hown1 hgrow _
  have HF1 := Lib.hid ((HF.out.alloc (.cells #[.int .u8 (m : Int)] 5)).grew (HO.out.alloc _) hgrow (Nat.le_refl _))
  have HO1 := Lib.hid hown1
  clear hown1 hgrow HO HF
  go_wp2_with fail
  go_loopw [0, 15] (fun v0 v15 wr => ∃ (k : Nat) (u : Value), k ≤ m ∧ v15 = .int .i64 k ∧ u = v0 ∧ wr.ownsRow w0.heap.size 5 1 u (n + 1 + 4 * k) ((bs ++ (m : Int) :: tagsB (l.take k)).map (Value.int .u8)) ∧ Fr [] w0 wr) (fun _ v15 _ => m - (intOf v15).toNat)
  case atStart => exact ⟨0, _, by omega, rfl, rfl, by simpa [tagsB] using HO1.out, HF1.out⟩
  case round =>
    obtain ⟨k, u, hk, rfl, rfl, hown, hfr⟩ := hrel
    have hsz1 := hfr.size
    by_cases hlt : k < m
    · obtain ⟨b, off, rfl, hcell, hall⟩ := HAT.out wr hfr k hlt
      clear hall
      have hst := HST.out k hlt
      obtain ⟨x, hx⟩ : ∃ x, l.getD k 0 = x := ⟨_, rfl⟩
      rw [hx] at hcell hst
      have HS := Lib.hid hst; have HOW := Lib.hid hown; have HFR := Lib.hid hfr
      clear hx hst hown hfr
      go_wp2_with (first
        | (at_builtin; refine wpList_append_own _ rfl _ _ 45 rfl w0.heap.size 5 i0 (.int .u8 0) 1 1 Try.underlying45 HI.out HZ0.out HZ1.out HZ2.out rfl (by decide) _ _ _ rfl (HOW.out.alloc _) ⟨wr.heap.size, 0, none⟩ 4 4 ((fourB x).map (Value.int .u8)) rfl rfl (cells_new wr ((fourB x).map (Value.int .u8)) 5) (by simp [Value.oneCell', fourB]) (by unfold maxLen; omega) (by omega) (by simp; omega) ?_)
        | fail)
      intro v' w4 hown' hgrow _
      have HFA := Lib.hid ((HFR.out.alloc (.cells ((fourB x).map (Value.int .u8)).toArray 5)).grew (HOW.out.alloc _) hgrow (Nat.le_refl _))
      have HOA := Lib.hid hown'
      clear hown' hgrow
      go_wp2_with fail
      go_roundw
      case rel => exact ⟨k + 1, _, by omega, by go_num, rfl, by rw [HS.out, show n + 1 + 4 * (k + 1) = n + 1 + 4 * k + 4 by omega]; simpa using HOA.out, HFA.out⟩
      case measure => simp [intOf]; omega
    · obtain rfl : m = k := by omega
      have HOW := Lib.hid hown; have HFR := Lib.hid hfr
      clear hown hfr
      go_wp2_with fail
      go_ret
      exact ⟨_, rfl, by rw [HCL.out, HCD.out, show n + (4 * m + 1) = n + 1 + 4 * m by omega]; exact HOW.out, HFR.out⟩
end Go.Proofs.Ytdbhppfpalpfmaa
