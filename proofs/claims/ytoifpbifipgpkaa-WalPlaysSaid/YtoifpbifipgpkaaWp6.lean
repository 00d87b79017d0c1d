/-
  wal: WalPlays.
-/
import Derived.Test.YtoifpbifipgpkaaWp5
namespace Go.Proofs.Ytoifpbifipgpkaa
open Go.RowKit Go.MapKept
set_option maxRecDepth 1000000 in
set_option maxHeartbeats 16000000 in
theorem wplays_calls (w : World) (ad : Option Addr) (len cap : Nat) (os : Nat → OpW) (hz : OpsAt w ad len os) :
    Calls Try.prog 5 #[.slice ad len cap] w fun e w' => e = .returned (.bool true) ∧ Fr [] w w' := by
  have HZ := Lib.hid hz
  have hlen := hz.1
  have HO := Lib.hid (lopen_calls w 340 (by omega) (by omega))
  clear hz
  go_enter Try.func5, Try.ntmps5
  go_wp2_with fail
  refine HO.out.mono ?_
  rintro e w1 ⟨p, l, m, s, bs, c, rfl, hf1, hbs, hst⟩
  have hz0 : ∀ i, i < 16 → (Sv.new (v0 c)).tell i = kindN 0 := fun i _ => by rw [(fit0 c).tell_ls rfl rfl]; rfl
  have HW1 : Hid (WsAt w [] p s false 1 (fun _ => 0) (fun _ => 0) 0 w1) := Lib.hid ⟨⟨bs, l, m, _, 1, hst, fit0 c, rfl, hbs, hz0, hz0, fun i hi => (by cases hi), (by simp), fun h => (by cases h), by omega⟩, by simp, hf1⟩
  clear hst hf1 hbs HO hz0
  go_wp2_with fail
  refine (awake_calls _).mono ?_
  rintro e w2 ⟨rfl, hf2⟩
  have HW2 := Lib.hid (HW1.out.regard hf2 (by simp) [] (by simp))
  clear hf2 HW1
  go_wp2_with fail
  obtain ⟨A, hA⟩ : ∃ A, w2.heap.size = A := ⟨_, rfl⟩
  have harr : (w2.alloc (.cells (arrK (fun _ => 0)) 49)).heap[A]? = some (.cells (arrK (fun _ => 0)) 49 (0, 0)) := by rw [← hA]; exact heap_alloc_new w2 _
  have hfa : Fr [] w2 (w2.alloc (.cells (arrK (fun _ => 0)) 49)) := (Fr.refl [] w2).alloc _
  have hsa : (w2.alloc (.cells (arrK (fun _ => 0)) 49)).heap.size = A + 1 := by rw [← hA]; simp
  have hlit : (#[.int .i64 0, .int .i64 0, .int .i64 0, .int .i64 0, .int .i64 0, .int .i64 0, .int .i64 0, .int .i64 0, .int .i64 0, .int .i64 0, .int .i64 0, .int .i64 0, .int .i64 0, .int .i64 0, .int .i64 0, .int .i64 0] : Array Value) = arrK (fun _ => 0) := rfl
  rw [hlit, hA]
  generalize w2.alloc (.cells (arrK (fun _ => 0)) 49) = W1 at *
  have harrD : (W1.alloc (.cells (arrK (fun _ => 0)) 49)).heap[A + 1]? = some (.cells (arrK (fun _ => 0)) 49 (0, 0)) := by rw [← hsa]; exact heap_alloc_new W1 _
  have hfd : Fr [] W1 (W1.alloc (.cells (arrK (fun _ => 0)) 49)) := (Fr.refl [] W1).alloc _
  obtain ⟨D, hD⟩ : ∃ D, A + 1 = D := ⟨_, rfl⟩
  rw [hD] at harrD ⊢
  generalize W1.alloc (.cells (arrK (fun _ => 0)) 49) = W0 at *
  have hAw : w.heap.size ≤ A := by have := HW2.out.fr.size; omega
  have HP0 : Hid (PwAt w [] p s A D false 1 (fun _ => 0) (fun _ => 0) 0 W0) := Lib.hid ⟨HW2.out.regard (hfa.trans hfd) (by simp) (rowsK A D (fun _ => 0) (fun _ => 0)) (fun y hy => by
    simp only [rowsK, List.mem_cons, List.not_mem_nil, or_false] at hy
    rcases hy with rfl | rfl
    · exact ⟨hfd.keep harr (by simp), .inl (by simp; omega)⟩
    · exact ⟨harrD, .inl (by simp; omega)⟩), fun j => ⟨by simp, by simp⟩, by omega⟩
  clear harr hfa hsa harrD hfd HW2 hA hlit
  go_wp2_with fail
  go_loopw [3, 4, 7, 8] (fun v3 v4 v7 v8 wr => ∃ (i p s : Nat) (now done : Nat → Nat) (all : Nat), (i ≤ 60 ∧ i ≤ len ∧ all ≤ i) ∧ v3 = .pointer (some ⟨p, 0, none⟩) ∧ v4 = .pointer (some ⟨s, 0, none⟩) ∧ v7 = .int .i64 all ∧ v8 = .int .i64 i ∧ PwAt w [] p s A D false (1 + 20200 * i) now done all wr) (fun _ _ _ v8 _ => 200 - (intOf v8).toNat)
  case atStart => exact ⟨0, p, s, _, _, 0, by omega, rfl, rfl, rfl, rfl, HP0.out⟩
  case round =>
    clear HP0
    rename World => wr
    obtain ⟨i, p, s, now, done, all, ⟨hi60, hilen, hall⟩, rfl, rfl, rfl, rfl, hP⟩ := hrel
    have hw1 : IntKind.i64.wrap ((i : Int) + 1) = (i : Int) + 1 := IntWalk.i64_in _ (by omega)
    have HP := Lib.hid hP
    by_cases hl1 : i < len
    · have g1 : (i : Int) < (len : Int) := by omega
      by_cases hl2 : i < 60
      · have g2 : (i : Int) < 60 := by omega
        have g3 : (0 : Int) ≤ (i : Int) := by omega
        obtain ⟨b0, off, rfl, hcz⟩ := (HZ.out.keep hP.ws.fr).2 (by omega)
        obtain ⟨b1, off1, he1, hcw⟩ := HZ.out.2 (by omega)
        have HV := Lib.hid (hcz i hl1); have HVW := Lib.hid (hcw i hl1)
        clear hcz hcw he1 hP
        go_upto_block 1 with fail
        refine rdW w wr p s A D (1 + 20200 * i) now done all i (os i) b0 off len cap hl1 hlen (by omega) (by omega) HV.out HVW.out.ints HVW.out.low HP.out ?_
        intro _ _ _ _ _ _ _ _ _ _ _ _ _ _ _ _ _ _ _ _ _ _ _ _ _ _ _ _ _ _ _ _ _ _ _ _ _ _ _ _ _ _ _ _ _ _ _ _ _ _ _ _ _ _ _ _ _ _ _ _ _ _ _ _ _ _ _ _ _ _ _ _ _ _ _ _ _ _ _ _ _ _ _ _ _ _ _ _ _ _ _ _ _ _ _ _ _ _ _ _ _ _ _ _ _ _ _ _ _ _ _ _ _ _ _ _ _ _ _ _ _ _ _ _ _ _ _ _ _ _ _ _ _ _ _ _ _ _ _ _ _ _ _ _ _ _ _ _ _ _ _ _ _ _ _ _ _ _ _ _ _ _ _ _ _ _ _ _ _ _ _ _ _ _ _ _ _ _ _ _ _ _ _ _ _ _ _ _ _ _ _ _ _ _ _ _ _ _ _ _ _ _ _ w3 p3 s3 now3 done3 all3 hall3 hP3
        have HP3 := Lib.hid (show PwAt w [] p3 s3 A D false (1 + 20200 * (i + 1)) now3 done3 all3 w3 from ⟨hP3.ws.more (by omega), hP3.kn, hP3.hA⟩)
        clear hP3 HP HV HVW
        go_wp2_with fail
        go_roundw
        case rel => exact ⟨i + 1, p3, s3, now3, done3, all3, by omega, rfl, rfl, rfl, by go_num, HP3.out⟩
        case measure => simp [intOf]; omega
      · have g2 : ¬ (i : Int) < 60 := by omega
        clear hP
        go_wp2_with fail
        go_ret
        exact ⟨rfl, HP.out.ws.fr⟩
    · have g1 : ¬ (i : Int) < (len : Int) := by omega
      clear hP
      go_wp2_with fail
      go_ret
      exact ⟨rfl, HP.out.ws.fr⟩
end Go.Proofs.Ytoifpbifipgpkaa
