/-
  A list in order; what is behind a tag.
-/
import Derived.Test.YtdbhppfpalpfmaaLabL
import Derived.Test.YtdbhppfpalpfmaaShelfP
import Derived.Sort.OwnSorted
namespace Go.Proofs.Ytdbhppfpalpfmaa
open Go.RowKit Go.MapKept
/-- The tail of a slice. -/
theorem RdI.tail {w : World} {b off cap : Nat} {x : Int} {zs : List Int} (h : RdI w (some ⟨b, off, none⟩) (cap + 1) (x :: zs)) : RdI w (some ⟨b, off + 1, none⟩) cap zs :=
  ⟨by have := h.le; simp at this; omega, by have := h.cb; omega, by have := h.big; simp at this; omega, (fun e => by cases e), fun a ha hl => by
    cases ha
    obtain ⟨b', off', e, hc⟩ := h.at_ _ rfl (by simp)
    cases e
    refine ⟨b, off + 1, rfl, fun j hj => ?_⟩
    have := hc (j + 1) (by simp; omega)
    rw [show off + 1 + j = off + (j + 1) by omega]
    simpa using this⟩
/-- No cell is left: whatever the address. -/
theorem RdI.empty {w : World} (ad : Option Addr) (cap : Nat) (h : cap ≤ 9223372036854775807) : RdI w ad cap [] := ⟨by simp, h, by simp, fun _ => rfl, fun a _ hl => by simp at hl⟩
/-- The one slice lies where the other does. -/
def TailOf (ad ad' : Option Addr) (zs zs' : List Int) : Prop := ∀ b off, ad' = some ⟨b, off, none⟩ → 0 < zs'.length → ∃ off', ad = some ⟨b, off', none⟩ ∧ 0 < zs.length
theorem drp_suffix (t : Int) : ∀ l, ∃ p, l = p ++ drp t l
  | [] => ⟨[], rfl⟩
  | x :: r => by
    unfold drp
    by_cases e : x = t
    · rw [if_pos e]
      obtain ⟨p, hp⟩ := drp_suffix t r
      exact ⟨x :: p, by rw [List.cons_append, ← hp]⟩
    · rw [if_neg e]; exact ⟨[], rfl⟩
set_option maxRecDepth 100000 in
set_option maxHeartbeats 1000000 in
theorem behind_calls (w : World) (ad : Option Addr) (cap : Nat) (zs : List Int) (t : Int) (h : RdI w ad cap zs) :
    Calls Try.prog 72 #[.slice ad zs.length cap, .int .i64 t] w fun e w' => ∃ ad' cap', e = .returned (.slice ad' (drp t zs).length cap') ∧ RdI w ad' cap' (drp t zs) ∧ TailOf ad ad' zs (drp t zs) ∧ w = w' := by
  have HR := Lib.hid h
  have hb := h.big
  clear h
  go_enter Try.func72, Try.ntmps72
  go_wp2
  go_loop [0] (fun v0 => ∃ (ad' : Option Addr) (cap' : Nat) (r : List Int), v0 = .slice ad' r.length cap' ∧ Hid (RdI w ad' cap' r) ∧ Hid (drp t zs = drp t r) ∧ Hid (TailOf ad ad' zs r)) (fun v0 => (match v0 with | .slice _ n _ => n | _ => 0))
  case atStart => exact ⟨ad, cap, zs, rfl, HR, Lib.hid rfl, Lib.hid (fun b off e hl => ⟨off, e, hl⟩)⟩
  case round =>
    clear HR hb
    obtain ⟨ad', cap', r, rfl, HR, HD, HA⟩ := hrel
    cases r with
    | nil =>
      have hd0 : drp t zs = [] := HD.out
      have HD0 := Lib.hid hd0
      clear HD hd0
      simp only [List.length_nil]
      go_wp2
      go_ret
      exact ⟨ad', cap', by rw [HD0.out]; rfl, by rw [HD0.out]; exact HR.out, (by rw [HD0.out]; intro b off _ h; simp at h), rfl⟩
    | cons x r =>
      obtain ⟨b, off, rfl, hc⟩ := HR.out.head
      have hle := HR.out.le
      have hcb := HR.out.cb
      have hb := HR.out.big
      simp only [List.length_cons] at hle hb ⊢
      obtain ⟨c, rfl⟩ : ∃ c, cap' = c + 1 := ⟨cap' - 1, by omega⟩
      have ht : Hid (RdI w (some ⟨b, off + 1, none⟩) c r) := Lib.hid HR.out.tail
      obtain ⟨n, hn⟩ : ∃ n, r.length = n := ⟨_, rfl⟩
      have HN := Lib.hid hn
      rw [hn] at hle hb ⊢
      clear hn
      by_cases e : x = t
      · subst e
        have hd : Hid (drp x zs = drp x r) := Lib.hid (by rw [HD.out, drp, if_pos rfl])
        clear HD
        by_cases c0 : c = 0
        · subst c0
          have e0 : n = 0 := by omega
          subst e0
          have er : r = [] := List.eq_nil_of_length_eq_zero HN.out
          subst er
          go_wp2
          go_round
          case rel => exact ⟨some ⟨b, off, none⟩, 0, [], rfl, Lib.hid (RdI.empty _ _ (by omega)), hd, Lib.hid (fun b off _ h => by simp at h)⟩
          case measure => simp
        · go_wp2
          go_round
          case rel => exact ⟨some ⟨b, off + 1, none⟩, c, r, by rw [HN.out], ht, hd, Lib.hid (fun b' off' e _ => by cases e; exact HA.out _ _ rfl (by simp))⟩
          case measure => simp
      · have hd : Hid (drp t zs = x :: r) := Lib.hid (by rw [HD.out, drp, if_neg e])
        have e' : (x == t) = false := by simpa using e
        go_wp2
        go_ret
        exact ⟨some ⟨b, off, none⟩, c + 1, by rw [hd.out]; simp [HN.out], by rw [hd.out]; exact HR.out, (fun b' off' e _ => HA.out _ _ e (by simp)), rfl⟩
end Go.Proofs.Ytdbhppfpalpfmaa
