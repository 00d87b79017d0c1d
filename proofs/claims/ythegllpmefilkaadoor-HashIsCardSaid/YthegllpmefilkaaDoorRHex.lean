/-
  The document's own digits.
-/
import Derived.Test.YthegllpmefilkaaDoorUnhex
namespace Go.Proofs.YthegllpmefilkaaDoor
open Go.RowKit Go.MapKept
set_option maxRecDepth 100000 in
set_option maxHeartbeats 2000000 in
theorem rhex_calls (w : World) (ad : Option Addr) (cap : Nat) (m : List UInt8) (hm : Reads w ad cap m) (hb0 : m.length ≤ 35184372088832) :
    Calls Tryd.prog 14 #[.slice ad m.length cap] w fun e w' => e = .returned (.string ⟨(hexB m).toArray⟩) ∧ Fr [] w w' := by
  obtain ⟨i0, hi, hz0, hz1, hz2⟩ := info_parts Tryd.info5
  have hb : Hid (i0.bytes * (2 * m.length) ≤ 281474976710656) := Lib.hid (by rw [hz2]; omega)
  have HI := Lib.hid hi; have HZ0 := Lib.hid hz0; have HZ1 := Lib.hid hz1; have HZ2 := Lib.hid hz2; clear hi hz0 hz1 hz2
  obtain ⟨hle, hbig, _, hnil, hat⟩ := hm
  have HAT := Lib.hid hat; clear hat
  have HNIL := Lib.hid hnil; clear hnil
  obtain ⟨n, hn⟩ : ∃ n, m.length = n := ⟨_, rfl⟩
  have HN := Lib.hid hn
  rw [hn] at hle hb hb0 ⊢
  clear hn
  go_enter Tryd.func14, Tryd.ntmps14
  go_wp2_with fail
  go_loopw [3, 4] (fun v3 v12 wr => ∃ k : Nat, k ≤ n ∧ v12 = .int .i64 k ∧ wr.ownsRow w.heap.size 5 1 v3 (2 * k) (cel (hexB (m.take k))) ∧ Fr [] w wr) (fun _ v12 _ => n - (intOf v12).toNat)
  case atStart => exact ⟨0, by omega, rfl, World.ownsRow_nil _ _ _ _, Fr.refl _ _⟩
  case round =>
    obtain ⟨k, hk, rfl, hown, hfr⟩ := hrel
    by_cases hlt : k < n
    · have hz : ¬ ad = none := fun h => by have := HNIL.out h; omega
      obtain ⟨a, rfl⟩ : ∃ a, ad = some a := by cases ad with | none => exact absurd rfl hz | some a => exact ⟨a, rfl⟩
      obtain ⟨b, off, rfl, hbs⟩ := HAT.out a rfl (by rw [HN.out]; omega)
      clear hz
      have hcell := hbs.cell (j := k) (by rw [HN.out]; exact hlt)
      have hcw : wr.cell? ⟨b, off + k, none⟩ = some (.int .u8 (m.getD k 0).toNat) := by
        rw [World.cell?_of_block (w := w) (hfr.block b (World.block_lt_of_cell? _ _ hcell) (by simp))]; exact hcell
      have hsn := hexB_snoc m k (by rw [HN.out]; exact hlt)
      obtain ⟨x, hx⟩ : ∃ x, m.getD k 0 = x := ⟨_, rfl⟩
      rw [hx] at hcw hsn
      clear hx hcell hbs
      have hlt8 := x.toNat_lt
      have hmk := mask_u8 x.toNat (by omega)
      have hd1 := digs_get (x.toNat / 16) (by omega)
      have hd2 := digs_get (x.toNat % 16) (by omega)
      have hho : hexOf x = [hexD (x.toNat / 16), hexD (x.toNat % 16)] := rfl
      generalize hexD (x.toNat / 16) = y1 at *
      generalize hexD (x.toNat % 16) = y2 at *
      have hnc := new_cells wr (cel (hexOf x)) 5
      rw [hho] at hnc hsn
      have hsz := hfr.size
      have HD1 := Lib.hid hd1; have HD2 := Lib.hid hd2; have HSN := Lib.hid hsn; have HNC := Lib.hid hnc; have HOW := Lib.hid hown; have HFR := Lib.hid hfr
      clear hd1 hd2 hsn hnc hown hfr hho
      obtain ⟨c, hc⟩ : ∃ c, x.toNat = c := ⟨_, rfl⟩
      rw [hc] at hcw hmk hlt8 HD1 HD2
      clear hc
      have hx1 : ∀ w, (Instr.index 9 (.string ⟨#[48, 49, 50, 51, 52, 53, 54, 55, 56, 57, 97, 98, 99, 100, 101, 102]⟩) (.int .u8 ((c : Int) / 16))).run Tryd.prog w = .ok (.int .u8 y1.toNat) w := fun w => run_indexS Tryd.underlying9 digs .u8 ((c : Int) / 16) (c / 16) rfl y1 HD1.out w
      have hx2 : ∀ w, (Instr.index 9 (.string ⟨#[48, 49, 50, 51, 52, 53, 54, 55, 56, 57, 97, 98, 99, 100, 101, 102]⟩) (.int .u8 ((c : Int) % 16))).run Tryd.prog w = .ok (.int .u8 y2.toNat) w := fun w => run_indexS Tryd.underlying9 digs .u8 ((c : Int) % 16) (c % 16) rfl y2 HD2.out w
      go_wp2_with fail
      go_region_law (refine step_append_own rfl (.tmp 11) (.tmp 24) 23 rfl w.heap.size 5 i0 (.int .u8 0) 1 1 Tryd.underlying23 HI.out HZ0.out HZ1.out HZ2.out rfl (by decide) _ _ _ rfl (HOW.out.alloc _) ⟨wr.heap.size, 0, none⟩ 2 2 [.int .u8 y1.toNat, .int .u8 y2.toNat] rfl rfl HNC.out (fun u hu => by simp at hu; rcases hu with rfl | rfl <;> rfl) (by unfold maxLen; omega) (by omega) (by simp; omega) ?_; intro v' w1 hown' hgrow _)
      all_goals
        have HFa := Lib.hid (((HFR.out.alloc _).drew).grew (HOW.out.alloc _) hgrow (Nat.le_refl _))
        have ho' : w1.ownsRow w.heap.size 5 1 v' (2 * (k + 1)) (cel (hexB (m.take (k + 1)))) := by
          rw [HSN.out, cel_append]; exact hown'
        have HOa := Lib.hid ho'
        clear hgrow hown' ho' hx1 hx2
        go_wp2_with fail
        go_roundw
        case rel => exact ⟨k + 1, by omega, by go_num, HOa.out, HFa.out⟩
        case measure => simp [intOf]; omega
    · obtain rfl : k = n := by omega
      rw [List.take_of_length_le (by rw [HN.out]; exact Nat.le_refl _)] at hown
      have HOW := Lib.hid hown; have HFR := Lib.hid hfr; clear hown hfr
      go_wp2_with (first
        | ((with_reducible_and_instances refine id (α := wpList _ _ _ (⟨some 27, .convert _ _ _, _, _, _, _⟩ :: _) _ _) ?_); refine wL_ownString rfl 23 9 5 (.tmp 26) rfl Tryd.underlying23 Tryd.underlying5 Tryd.underlying9 _ rfl _ _ _ _ HOW.out ?_)
        | fail)
      go_ret
      exact ⟨rfl, HFR.out⟩
end Go.Proofs.YthegllpmefilkaaDoor
