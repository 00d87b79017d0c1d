/-
  Two rising lists: the least of both.
-/
import Derived.Test.YtdbhppfpalpfmaaLabS
namespace Go.Proofs.Ytdbhppfpalpfmaa
open Go.RowKit Go.MapKept
theorem ret_two {a b : Int} {c d : Int} (h : a = c) (h' : b = d) : Ending.returned (.tuple #[.int .i64 a, .int .i64 b]) = .returned (.tuple #[.int .i64 c, .int .i64 d]) := by rw [h, h']
/-- A slice's first cell. -/
theorem RdI.head {w : World} {ad : Option Addr} {cap : Nat} {x : Int} {zs : List Int} (h : RdI w ad cap (x :: zs)) : ∃ b off, ad = some ⟨b, off, none⟩ ∧ w.cell? ⟨b, off, none⟩ = some (.int .i64 x) := by
  cases ad with
  | none => have := h.nil rfl; simp at this
  | some a =>
    obtain ⟨b, off, rfl, hc⟩ := h.at_ a rfl (by simp)
    exact ⟨b, off, rfl, by simpa using hc 0 (by simp)⟩
set_option maxRecDepth 100000 in
set_option maxHeartbeats 2000000 in
theorem least_calls (w : World) (a1 a2 : Option Addr) (c1 c2 : Nat) (a b : List Int) (h1 : RdI w a1 c1 a) (h2 : RdI w a2 c2 b) (hne : ¬ a.length + b.length = 0) :
    Calls Try.prog 71 #[.slice a1 a.length c1, .slice a2 b.length c2] w fun e w' => e = .returned (.tuple #[.int .i64 (lst a b).1, .int .i64 (lst a b).2]) ∧ ∃ n, w' = w.drewN n := by
  have hb1 := h1.big; have hb2 := h2.big
  cases a with
  | nil =>
    cases b with
    | nil => simp at hne
    | cons y b =>
      obtain ⟨bb, bo, rfl, hcb⟩ := h2.head
      have hl : lst [] (y :: b) = (y, 2) := rfl
      rw [hl]
      clear h1 h2 hne hl
      simp only [List.length_cons, List.length_nil] at hb1 hb2 ⊢
      obtain ⟨n, hn⟩ : ∃ n, b.length = n := ⟨_, rfl⟩
      rw [hn] at hb2 ⊢
      clear hn
      have g1 : (((n + 1 : Nat) : Int) == 0) = false := by simp; omega
      go_enter Try.func71, Try.ntmps71
      go_wp2
      go_quiet (fail)
      go_wp2
      go_quiet (fail)
      go_wp2
      go_ret2
      exact ⟨rfl, _, rfl⟩
  | cons x a =>
    obtain ⟨ab, ao, rfl, hca⟩ := h1.head
    cases b with
    | nil =>
      have hl : lst (x :: a) [] = (x, 1) := rfl
      rw [hl]
      clear h1 h2 hne hl
      simp only [List.length_cons, List.length_nil] at hb1 hb2 ⊢
      obtain ⟨n, hn⟩ : ∃ n, a.length = n := ⟨_, rfl⟩
      rw [hn] at hb1 ⊢
      clear hn
      have g1 : (((n + 1 : Nat) : Int) == 0) = false := by simp; omega
      go_enter Try.func71, Try.ntmps71
      go_wp2
      go_quiet (fail)
      go_wp2
      go_ret2
      exact ⟨rfl, _, rfl⟩
    | cons y b =>
      obtain ⟨bb, bo, rfl, hcb⟩ := h2.head
      have hl : lst (x :: a) (y :: b) = if x < y then (x, 1) else if y < x then (y, 2) else (x, 3) := rfl
      rw [hl]
      clear h1 h2 hne hl
      simp only [List.length_cons] at hb1 hb2 ⊢
      obtain ⟨n, hn⟩ : ∃ n, a.length = n := ⟨_, rfl⟩
      obtain ⟨m, hm⟩ : ∃ n, b.length = n := ⟨_, rfl⟩
      rw [hn] at hb1 ⊢
      rw [hm] at hb2 ⊢
      clear hn hm
      have g1 : (((n + 1 : Nat) : Int) == 0) = false := by simp; omega
      have g2 : (((m + 1 : Nat) : Int) == 0) = false := by simp; omega
      have g3 : decide ((0 : Int) < ((n + 1 : Nat) : Int)) = true := by simp
      by_cases c : x < y
      · rw [if_pos c]
        have d1 : decide (x < y) = true := by simpa using c
        go_enter Try.func71, Try.ntmps71
        go_wp2
        go_quiet (fail)
        go_wp2
        go_ret2
        exact ⟨rfl, _, rfl⟩
      · rw [if_neg c]
        have d1 : decide (x < y) = false := by simpa using c
        by_cases d : y < x
        · rw [if_pos d]
          have d2 : decide (y < x) = true := by simpa using d
          go_enter Try.func71, Try.ntmps71
          go_wp2
          go_quiet (fail)
          go_wp2
          go_quiet (fail)
          go_wp2
          go_ret2
          exact ⟨rfl, _, rfl⟩
        · rw [if_neg d]
          have d2 : decide (y < x) = false := by simpa using d
          go_enter Try.func71, Try.ntmps71
          go_wp2
          go_quiet (fail)
          go_wp2
          go_quiet (fail)
          go_wp2
          go_ret2
          exact ⟨rfl, _, rfl⟩
end Go.Proofs.Ytdbhppfpalpfmaa
