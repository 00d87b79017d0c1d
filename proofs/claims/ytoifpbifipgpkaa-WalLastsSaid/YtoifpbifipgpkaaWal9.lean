/-
  wal: whether a transaction finds no place.
-/
import Derived.Test.YtoifpbifipgpkaaWal8
namespace Go.Proofs.Ytoifpbifipgpkaa
open Go.RowKit Go.MapKept
/-- A map of k entries. -/
def MapOf (w : World) (m k : Nat) : Prop := ∃ es clk, w.heap[m]? = some (.map es clk) ∧ es.size = k
theorem MapOf.card {w : World} {m n : Nat} {C : Int → Option (List UInt8)} {k : Nat} (h : ChAt w m n C) (hk : Card C k) : MapOf w m k := by
  obtain ⟨es, clk, hb, hh⟩ := h.map
  exact ⟨es, clk, hb, (Card.of hh).one hk⟩
theorem sum_take (ks : List Nat) (j : Nat) (h : j < ks.length) : (ks.take (j + 1)).sum = (ks.take j).sum + ks.getD j 0 := by
  have e : ks.getD j 0 = ks[j] := by simp [h]
  rw [List.take_succ_eq_append_getElem h, List.sum_append, e]
  simp only [List.sum_cons, List.sum_nil, Nat.add_zero]
theorem sum_le (ks : List Nat) (b : Nat) (h : ∀ x ∈ ks, x ≤ b) : ∀ j, (ks.take j).sum ≤ j * b
  | 0 => by simp
  | j + 1 => by
    by_cases hj : j < ks.length
    · rw [sum_take ks j hj]
      have h1 := sum_le ks b h j
      have h2 : ks.getD j 0 ≤ b := by
        have e : ks.getD j 0 = ks[j] := by simp [hj]
        rw [e]; exact h _ (List.getElem_mem _)
      have h3 : (j + 1) * b = j * b + b := Nat.succ_mul j b
      omega
    · have h1 := sum_le ks b h j
      have e : ks.take (j + 1) = ks.take j := by rw [List.take_of_length_le (by omega), List.take_of_length_le (by omega)]
      have h3 : (j + 1) * b = j * b + b := Nat.succ_mul j b
      rw [e]; omega
set_option maxRecDepth 100000 in
set_option maxHeartbeats 1000000 in
theorem crowded_calls (w : World) (s p u : Nat) (wv : Value) (all last : Int) (gone : Bool) (hs : StoreBox w s p u wv all last gone) (KU : Nat) (hU : MapOf w u KU) (hKU : KU ≤ 8192) (B : Nat) (ms ks : List Nat) (hlen : ms.length = ks.length) (h16 : ms.length ≤ 16)
    (hown : w.ownsRow B 85 1 wv ms.length (ms.map fun m => Value.map (some m))) (hm : ∀ j, j < ms.length → MapOf w (ms.getD j 0) (ks.getD j 0)) (hks : ∀ x ∈ ks, x ≤ 8192) :
    Calls Try.prog 41 #[.pointer (some ⟨s, 0, none⟩)] w fun e w' => e = .returned (.bool (decide (ms.length = 16) || decide (256 < KU + ks.sum))) ∧ w = w' := by
  have hc := box_cell hs
  obtain ⟨eu, cu, hbu, hsu⟩ := hU
  have hrl := fun ty => run_len_map (P := Try.prog) (w := w) 85 ty u eu cu (by kernel_rfl) hbu
  rw [hsu] at hrl
  have hsl : ∃ a cap, wv = .slice a ms.length cap ∧ (∀ j, j < ms.length → ∃ g, a = some ⟨g, 0, none⟩ ∧ w.cell? ⟨g, j, none⟩ = some (.map (some (ms.getD j 0)))) := by
    by_cases h0 : 0 < ms.length
    · obtain ⟨g, cap, rfl, _, _, hrg⟩ := row_range hown h0
      refine ⟨_, cap, rfl, fun j hj => ⟨g, rfl, ?_⟩⟩
      have := hrg j (.map (some (ms.getD j 0))) (by simp [hj])
      rwa [Nat.zero_add] at this
    · rcases hown.2 with ⟨rfl, _⟩ | ⟨g, cap, cur, rfl, _⟩
      · exact ⟨none, 0, by rw [show ms.length = 0 by omega], fun j hj => by omega⟩
      · exact ⟨_, cap, rfl, fun j hj => by omega⟩
  obtain ⟨a, cap, rfl, hcell⟩ := hsl
  have hsum := sum_le ks 8192 hks
  have hst := sum_take ks
  have hfull : (ks.take ms.length).sum = ks.sum := by rw [List.take_of_length_le (by omega)]
  have HC := Lib.hid hcell; have HM := Lib.hid hm; have HSUM := Lib.hid hsum; have HST := Lib.hid hst; have HFU := Lib.hid hfull; have HLEN := Lib.hid hlen
  clear hs hown hcell hm hsum hst hfull hbu hsu
  obtain ⟨K, hK⟩ : ∃ K, ms.length = K := ⟨_, rfl⟩
  rw [hK] at h16 HC HM HFU HLEN hc ⊢
  clear hlen hK
  go_enter Try.func41, Try.ntmps41
  go_wp2_with fail
  go_loopw [3, 16] (fun v3 v16 wr => ∃ j : Nat, j ≤ K ∧ v16 = .int .i64 j ∧ v3 = .int .i64 ((KU + (ks.take j).sum : Nat) : Int) ∧ w = wr) (fun _ v16 _ => K - (intOf v16).toNat)
  case atStart => exact ⟨0, by omega, rfl, by simp, rfl⟩
  case round =>
    obtain ⟨j, hj, rfl, rfl, rfl⟩ := hrel
    have hsj := HSUM.out j
    by_cases hlt : j < K
    · have hlt' : (j : Int) < (K : Int) := by omega
      obtain ⟨g, rfl, hcj⟩ := HC.out j hlt
      obtain ⟨es, clk, hb, hes⟩ := HM.out j hlt
      have hrj := fun ty => run_len_map (P := Try.prog) (w := w) 85 ty (ms.getD j 0) es clk (by kernel_rfl) hb
      rw [hes] at hrj
      have hst := HST.out j (by have := HLEN.out; omega)
      have hkj : ks.getD j 0 ≤ 8192 := by
        have e : ks.getD j 0 = ks[j]'(by have := HLEN.out; omega) := by have := HLEN.out; simp [show j < ks.length by omega]
        rw [e]; exact hks _ (List.getElem_mem _)
      generalize ks.getD j 0 = kj at *
      generalize ms.getD j 0 = mj at *
      have HST2 := Lib.hid hst
      generalize hS : (ks.take j).sum = S at *
      have hj0 : (0 : Int) ≤ (j : Int) := by omega
      have hw1 : IntKind.i64.wrap ((KU : Int) + (S : Int) + (kj : Int)) = (KU : Int) + (S : Int) + (kj : Int) := IntWalk.i64_in _ (by omega)
      have hw2 : (KU : Int) + (S : Int) + (kj : Int) = (KU : Int) + ((S : Int) + (kj : Int)) := by omega
      have hSB : S ≤ 200000 := by omega
      clear hb hes hst hS hsj
      go_wp2_with fail
      go_roundw
      case rel => exact ⟨j + 1, by omega, by go_num, by rw [HST2.out]; simp <;> (simp only [wrap64]; omega), trivial⟩
      case measure => simp [intOf]; omega
    · obtain rfl : j = K := by omega
      rw [HFU.out] at hsj ⊢
      by_cases h1 : j = 16
      · subst h1
        go_wp2_with fail
        go_ret
        exact ⟨by simp, rfl⟩
      · have h1' : ¬ ((j : Int) = 16) := by omega
        go_wp2_with fail
        go_ret
        refine ⟨?_, rfl⟩
        show Ending.returned (Value.bool (((j : Int) == 16) || decide (256 < (KU : Int) + (ks.sum : Nat)))) = _
        have e1 : ((j : Int) == 16) = false := by simp; omega
        have e2 : decide (256 < (KU : Int) + (ks.sum : Nat)) = decide (256 < KU + ks.sum) := decide_eq_decide.2 (by omega)
        rw [e1, e2, decide_eq_false h1]
end Go.Proofs.Ytoifpbifipgpkaa
