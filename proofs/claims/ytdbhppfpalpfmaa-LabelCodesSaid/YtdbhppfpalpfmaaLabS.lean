/-
  What is a set: the code's own answer, and the document's.
-/
import Derived.Test.YtdbhppfpalpfmaaLaws
import Derived.Test.YtdbhppfpalpfmaaLabM
import Derived.Deep.QuietTactic
import Derived.BigQuiet
import Derived.LoopTactic
namespace Go.Proofs.Ytdbhppfpalpfmaa
open Go.RowKit Go.MapKept

/-- A slice of ints that reads as zs. -/
structure RdI (w : World) (ad : Option Addr) (cap : Nat) (zs : List Int) : Prop where
  le : zs.length ≤ cap
  cb : cap ≤ 9223372036854775807
  big : zs.length * 8 ≤ 140737488355328
  nil : ad = none → zs.length = 0
  at_ : ∀ a, ad = some a → 0 < zs.length → ∃ b off, a = ⟨b, off, none⟩ ∧ ∀ j, j < zs.length → w.cell? ⟨b, off + j, none⟩ = some (.int .i64 (zs.getD j 0))
theorem RdI.keep {w w' : World} {ad : Option Addr} {cap : Nat} {zs : List Int} (h : RdI w ad cap zs) (hf : Fr [] w w') : RdI w' ad cap zs :=
  ⟨h.le, h.cb, h.big, h.nil, fun a ha hl => by
    obtain ⟨b, off, rfl, hc⟩ := h.at_ a ha hl
    refine ⟨b, off, rfl, fun j hj => ?_⟩
    have hcj := hc j hj
    rw [World.cell?_of_block (w := w) (hf.block b (World.block_lt_of_cell? _ _ hcj) (by simp))]
    exact hcj⟩
theorem RdI.lt {w : World} {b off cap : Nat} {zs : List Int} (h : RdI w (some ⟨b, off, none⟩) cap zs) (hl : 0 < zs.length) : b < w.heap.size := by
  obtain ⟨b', off', e, hc⟩ := h.at_ _ rfl hl
  cases e
  exact World.block_lt_of_cell? _ _ (hc 0 hl)
theorem Fr.drewN {l : List Nat} {a w : World} (h : Fr l a w) (n : Nat) : Fr l a (w.drewN n) := ⟨h.os, h.tape, h.output, h.size, h.block⟩

theorem ret_bool' {a b : Bool} (h : a = b) : Ending.returned (.bool a) = .returned (.bool b) := by rw [h]
set_option maxHeartbeats 400000 in
theorem follows_calls (w : World) (last tag : Int) :
    Calls Try.prog 44 #[.int .i64 last, .int .i64 tag] w fun e w' => e = .returned (.bool (decide (last < tag) && decide (tag ≤ 2147483647))) ∧ w = w' := by
  by_cases h1 : last < tag
  · by_cases h2 : tag ≤ 2147483647
    · go_enter Try.func44, Try.ntmps44
      go_wp2
      go_ret
      exact ⟨by simp [h1, h2], rfl⟩
    · go_enter Try.func44, Try.ntmps44
      go_wp2
      go_ret
      exact ⟨by simp [h1, h2], rfl⟩
  · go_enter Try.func44, Try.ntmps44
    go_wp2
    go_ret
    exact ⟨ret_bool' (by simp; intros; omega), rfl⟩
theorem ret_bool {a b : Bool} (h : a = b) : Ending.returned (.bool a) = .returned (.bool b) := by rw [h]
set_option maxRecDepth 100000 in
set_option maxHeartbeats 1000000 in
theorem set_calls (w : World) (ad : Option Addr) (cap : Nat) (zs : List Int) (h : RdI w ad cap zs) :
    Calls Try.prog 9 #[.slice ad zs.length cap] w fun e w' => e = .returned (.bool (setB zs)) ∧ w = w' := by
  obtain ⟨hle, hcb, hbig, hnil, hat⟩ := h
  have HNIL := Lib.hid hnil; have HAT := Lib.hid hat; clear hnil hat
  have hset : setB zs = (decide (zs.length ≤ 16) && upB 0 zs) := rfl
  have hdr := upB_drop zs
  have HDR := Lib.hid hdr; clear hdr
  have hdr0 : upB 0 zs = upB 0 (zs.drop 0) := by rw [List.drop_zero]
  have hend : ∀ p, upB p (zs.drop zs.length) = true := fun p => by rw [List.drop_length]; rfl
  have HS := Lib.hid hset; have HD0 := Lib.hid hdr0; have HE := Lib.hid hend
  clear hset hdr0 hend
  generalize hn : zs.length = n at *
  by_cases h16 : 16 < n
  · go_enter Try.func9, Try.ntmps9
    go_wp2
    go_ret
    exact ⟨ret_bool (by rw [HS.out]; simp; omega), rfl⟩
  · have h16' : n ≤ 16 := by omega
    have HN := Lib.hid hn
    clear hn
    go_enter Try.func9, Try.ntmps9
    go_wp2
    go_loop [3, 11] (fun v3 v11 => ∃ (k : Nat) (p : Int), k ≤ n ∧ v11 = .int .i64 k ∧ v3 = .int .i64 p ∧ Hid (upB 0 zs = upB p (zs.drop k))) (fun _ v11 => n - (intOf v11).toNat)
    case atStart => exact ⟨0, 0, by omega, rfl, rfl, HD0⟩
    case round =>
      obtain ⟨k, p, hk, rfl, rfl, HU⟩ := hrel
      by_cases hlt : k < n
      · have hz : ¬ ad = none := fun h => by have := HNIL.out h; omega
        obtain ⟨a, rfl⟩ : ∃ a, ad = some a := by cases ad with | none => exact absurd rfl hz | some a => exact ⟨a, rfl⟩
        obtain ⟨b, off, rfl, hc⟩ := HAT.out a rfl (by omega)
        have hcell := hc k hlt
        have hd := HDR.out p k hlt
        clear hz hc
        obtain ⟨x, hx⟩ : ∃ x, zs.getD k 0 = x := ⟨_, rfl⟩
        rw [hx] at hcell hd
        have HD := Lib.hid hd
        clear hx hd
        have hf := follows_calls w p x
        by_cases hb : (decide (p < x) && decide (x ≤ 2147483647)) = true
        · rw [hb] at hf
          have HB := Lib.hid hb; clear hb
          go_wp2_with (go_at_call 44; refine hf.mono ?_; rintro e w' ⟨rfl, rfl⟩)
          go_round
          case rel => exact ⟨k + 1, x, by omega, by go_num, rfl, Lib.hid (by rw [HU.out, HD.out, HB.out, Bool.true_and])⟩
          case measure => simp [intOf]; omega
        · have hb' : (decide (p < x) && decide (x ≤ 2147483647)) = false := by simpa using hb
          rw [hb'] at hf
          have HB := Lib.hid hb'; clear hb hb'
          go_wp2_with (go_at_call 44; refine hf.mono ?_; rintro e w' ⟨rfl, rfl⟩)
          go_ret
          exact ⟨ret_bool (by rw [HS.out, HU.out, HD.out, HB.out]; simp), rfl⟩
      · obtain rfl : k = n := by omega
        go_wp2
        go_ret
        exact ⟨ret_bool (by rw [HS.out, HU.out, HE.out]; simp; omega), rfl⟩
theorem may_calls (w : World) (a1 a2 : Option Addr) (c1 c2 : Nat) (s i : List Int) (h1 : RdI w a1 c1 s) (h2 : RdI w a2 c2 i) :
    Calls Try.prog 10 #[.agg #[.slice a1 s.length c1, .slice a2 i.length c2]] w fun e w' => e = .returned (.bool (setB s && setB i)) ∧ Fr [] w w' := by
  have hF : Fr [] w (w.alloc (.cells #[.slice a1 s.length c1, .slice a2 i.length c2] 26)) := (Fr.refl [] w).alloc _
  have hs1 := set_calls _ _ _ _ (h1.keep hF)
  have hs2 := set_calls _ _ _ _ (h2.keep hF)
  have HF := Lib.hid hF; clear hF
  by_cases hb : setB s = true
  · rw [hb] at hs1 ⊢
    clear hb
    go_enter Try.func10, Try.ntmps10
    go_wp2_with fail
    refine hs1.mono ?_
    rintro e w' ⟨rfl, rfl⟩
    go_wp2_with fail
    refine hs2.mono ?_
    rintro e w' ⟨rfl, rfl⟩
    go_wp2_with fail
    go_ret
    exact ⟨by simp, HF.out⟩
  · have hb' : setB s = false := by simpa using hb
    rw [hb'] at hs1 ⊢
    clear hb hb'
    go_enter Try.func10, Try.ntmps10
    go_wp2_with fail
    refine hs1.mono ?_
    rintro e w' ⟨rfl, rfl⟩
    go_wp2_with fail
    go_ret
    exact ⟨by simp, HF.out⟩
end Go.Proofs.Ytdbhppfpalpfmaa
