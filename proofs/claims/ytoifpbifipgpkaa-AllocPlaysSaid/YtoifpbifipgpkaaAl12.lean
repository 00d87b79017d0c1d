/-
  alloc: AllocPlays.
-/
import Derived.Test.YtoifpbifipgpkaaAl11
import Derived.Deep.CutBlock
namespace Go.Proofs.Ytoifpbifipgpkaa
open Go.RowKit Go.MapKept
set_option maxRecDepth 1000000 in
set_option maxHeartbeats 16000000 in
theorem plays5_calls (w : World) (n : Int) (ad : Option Addr) (len cap : Nat) (ps : Nat → Int × Int) (hz : PairsAt w ad len ps) :
    Calls Try.prog 10 #[.int .i64 n, .slice ad len cap] w fun e w' => e = .returned (.bool true) ∧ Fr [] w w' := by
  have HZ := Lib.hid hz
  have hlen := hz.1
  obtain ⟨N0, hN0, hNe⟩ := mod60 n
  obtain ⟨N, hN⟩ : ∃ N : Nat, N0 + 1 = N := ⟨_, rfl⟩
  have hN1 : 1 ≤ N ∧ N ≤ 60 := by omega
  have hw0 : IntKind.i64.wrap ((N0 : Int) + 1) = (N : Int) := by rw [IntWalk.i64_in _ (by omega)]; omega
  have HM := Lib.hid (made_calls w 5 N (by omega) (by omega) (by omega))
  clear hz hN
  go_enter Try.func10, Try.ntmps10
  go_wp2_with fail
  refine HM.out.mono ?_
  rintro e w1 ⟨s, p, l, m, h, rfl, hA⟩
  have HA := Lib.hid hA
  clear hA HM
  go_wp2_with fail
  refine (awake5_calls _).mono ?_
  rintro e w2 ⟨rfl, hf2⟩
  have HA2 := Lib.hid (HA.out.regard hf2 (by simp) [] (by simp))
  clear hf2 HA
  go_wp2_with fail
  obtain ⟨A, hA⟩ : ∃ A, w2.heap.size = A := ⟨_, rfl⟩
  have harr : (w2.alloc (.cells (arrB (fun _ => false) 61) 71)).heap[A]? = some (.cells (arrB (fun _ => false) 61) 71 (0, 0)) := by rw [← hA]; exact heap_alloc_new w2 _
  have hfa : Fr [] w2 (w2.alloc (.cells (arrB (fun _ => false) 61) 71)) := (Fr.refl [] w2).alloc _
  have hsa : (w2.alloc (.cells (arrB (fun _ => false) 61) 71)).heap.size = A + 1 := by rw [← hA]; simp
  have hlit : (#[.bool false, .bool false, .bool false, .bool false, .bool false, .bool false, .bool false, .bool false, .bool false, .bool false, .bool false, .bool false, .bool false, .bool false, .bool false, .bool false, .bool false, .bool false, .bool false, .bool false, .bool false, .bool false, .bool false, .bool false, .bool false, .bool false, .bool false, .bool false, .bool false, .bool false, .bool false, .bool false, .bool false, .bool false, .bool false, .bool false, .bool false, .bool false, .bool false, .bool false, .bool false, .bool false, .bool false, .bool false, .bool false, .bool false, .bool false, .bool false, .bool false, .bool false, .bool false, .bool false, .bool false, .bool false, .bool false, .bool false, .bool false, .bool false, .bool false, .bool false, .bool false] : Array Value) = arrB (fun _ => false) 61 := rfl
  rw [hlit, hA]
  generalize w2.alloc (.cells (arrB (fun _ => false) 61) 71) = W1 at *
  have harrD : (W1.alloc (.cells (arrB (fun _ => false) 61) 71)).heap[A + 1]? = some (.cells (arrB (fun _ => false) 61) 71 (0, 0)) := by rw [← hsa]; exact heap_alloc_new W1 _
  have hfd : Fr [] W1 (W1.alloc (.cells (arrB (fun _ => false) 61) 71)) := (Fr.refl [] W1).alloc _
  obtain ⟨D, hD⟩ : ∃ D, A + 1 = D := ⟨_, rfl⟩
  rw [hD] at harrD ⊢
  generalize W1.alloc (.cells (arrB (fun _ => false) 61) 71) = W0 at *
  have hAw : w.heap.size ≤ A := by have := HA2.out.fr.size; omega
  have HP0 := Lib.hid (show PlAt w s p l m h N A D 1 (fun _ => false) (fun _ => false) 0 W0 from ⟨HA2.out.regard (hfa.trans hfd) (by simp) (rows A D (fun _ => false) (fun _ => false)) (fun y hy => by
    simp only [rows, List.mem_cons, List.not_mem_nil, or_false] at hy
    rcases hy with rfl | rfl
    · exact ⟨hfd.keep harr (by simp), .inl (by simp; omega)⟩
    · exact ⟨harrD, .inl (by simp; omega)⟩), fun y hy => ⟨rfl, rfl⟩, by omega⟩)
  clear harr hfa hsa harrD hfd HA2 hA hlit
  go_wp2_with fail
  go_loopw [9] (fun v9 wr => ∃ (i : Nat) (f g : Nat → Bool) (all : Nat), (i ≤ 80 ∧ i ≤ len ∧ all ≤ i) ∧ v9 = .int .i64 i ∧ PlAt w s p l m h N A D (1 + 2000 * i) f g all wr) (fun v9 _ => 200 - (intOf v9).toNat)
  case atStart => exact ⟨0, _, _, 0, by omega, rfl, HP0.out⟩
  case round =>
    clear HP0
    rename World => wr
    obtain ⟨i, f, g, all, ⟨hi80, hilen, hall⟩, rfl, hP⟩ := hrel
    have hw1 : IntKind.i64.wrap ((i : Int) + 1) = (i : Int) + 1 := IntWalk.i64_in _ (by omega)
    have HP := Lib.hid hP
    by_cases hl1 : i < len
    · have g1 : (i : Int) < (len : Int) := by omega
      by_cases hl2 : i < 80
      · have g2 : (i : Int) < 80 := by omega
        have g3 : (0 : Int) ≤ (i : Int) := by omega
        obtain ⟨b0, off, rfl, hcz⟩ := (HZ.out.keep hP.al.fr).2 (by omega)
        obtain ⟨hc1, hc2, hkb⟩ := hcz i hl1
        have HC1 := Lib.hid hc1; have HC2 := Lib.hid hc2
        clear hcz hc1 hc2 hkb hP
        go_upto_block 1 with fail
        refine rd1 w wr s p l m h N A D (1 + 2000 * i) f g all i _ _ b0 off len cap hN1 (by omega) (by omega) hl1 hlen HC1.out HC2.out HP.out ?_
        intro _ _ _ _ _ _ _ _ _ _ _ _ _ _ _ _ _ _ _ _ _ _ _ _ _ _ _ _ _ _ _ _ _ _ _ _ _ _ _ _ _ _ _ _ _ _ _ _ _ _ _ _ _ _ _ _ _ _ _ _ _ _ _ _ _ _ _ _ _ _ _ _ _ _ _ _ _ _ _ _ _ _ _ _ _ _ _ _ _ _ _ _ _ _ _ _ _ _ _ _ _ _ _ _ _ _ _ _ _ _ _ _ _ _ _ _ _ _ _ _ _ _ _ _ _ _ _ _ _ _ _ _ _ _ _ _ _ _ _ _ _ _ _ _ _ _ _ _ _ _ _ _ _ _ _ _ _ _ _ _ _ _ _ _ _ _ _ _ _ _ _ _ _ _ _ _ _ _ _ _ _ _ _ _ _ _ _ w3 f3 g3' all3 hall3 hP3
        have HP3 := Lib.hid hP3
        clear hP3 HP HC1 HC2
        go_wp2_with fail
        go_roundw
        case rel => exact ⟨i + 1, f3, g3', all3, by omega, by go_num, HP3.out.more (by omega)⟩
        case measure => simp [intOf]; omega
      · have g2 : ¬ (i : Int) < 80 := by omega
        clear hP
        go_wp2_with fail
        go_ret
        exact ⟨rfl, HP.out.al.fr⟩
    · have g1 : ¬ (i : Int) < (len : Int) := by omega
      clear hP
      go_wp2_with fail
      go_ret
      exact ⟨rfl, HP.out.al.fr⟩
end Go.Proofs.Ytoifpbifipgpkaa
