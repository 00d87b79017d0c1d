/-
  wal: a device's sectors are carried to a new one; a crash behind which nothing waited.
-/
import Derived.Test.YtoifpbifipgpkaaWal29
namespace Go.Proofs.Ytoifpbifipgpkaa
open Go.RowKit Go.MapKept
/-- What stands in the first i sectors. -/
def firstW (ls : Nat → List UInt8) (i : Nat) : Int → Option (List UInt8) := fun k => if 0 ≤ k ∧ k < i then some (ls k.toNat) else none
theorem firstW_wrote (ls : Nat → List UInt8) (i : Nat) : wrote (firstW ls i) i (ls i) = firstW ls (i + 1) := by
  funext k
  unfold wrote firstW
  by_cases h : k = (i : Int)
  · subst h
    rw [if_pos rfl, if_pos (by omega), Int.toNat_natCast]
  · rw [if_neg h]
    by_cases h2 : 0 ≤ k ∧ k < (i : Int)
    · rw [if_pos h2, if_pos (by omega)]
    · rw [if_neg h2, if_neg (by omega)]
theorem DvAt.ls {w : World} {p l m n q : Nat} {b : Int} {v : Dv} (h : DvAt w p l m n q b v) {ls' : Nat → List UInt8} (he : ∀ i, i < n → ls' i = v.ls i) : DvAt w p l m n q b ⟨v.c, v.f, v.d, ls', v.wt⟩ := by
  obtain ⟨lc, h1, h2, h3⟩ := h.at_.las
  exact ⟨⟨h.at_.box, ⟨lc, h1, h2, fun i hi => by have := h3 i hi; rw [← he i hi] at this; exact this⟩, h.at_.wai, h.at_.dom, h.at_.pl, h.at_.nb⟩, h.cb, h.fb⟩
set_option maxHeartbeats 4000000 in
theorem carried_calls (w : World) (p l m n q : Nat) (b c : Int) (ls : Nat → List UInt8) (h : DvAt w p l m n q b ⟨c, -1, false, ls, fun _ => none⟩) (hb : b < 8000000000000000000) :
    Calls Try.prog 26 #[.pointer (some ⟨p, 0, none⟩)] w fun e w' => ∃ p' l' m' c', e = .returned (.pointer (some ⟨p', 0, none⟩)) ∧ Fr [p] w w' ∧ w.heap.size ≤ p' ∧ w.heap.size ≤ l' ∧ w.heap.size ≤ m' ∧ DvAt w' p' l' m' n n 10000 ⟨c', -1, false, ls, fun _ => none⟩ := by
  have hnb := h.at_.nb
  have HN := Lib.hid (new_ok w n hnb)
  have HS := Lib.hid (size_calls w p l m n q c (-1) false ls (fun _ => none) h.at_)
  have H := Lib.hid h
  have hlts := h.lts
  clear h
  go_enter Try.func26, Try.ntmps26
  go_wp2_with fail
  refine HS.out.mono ?_
  rintro e w0 ⟨rfl, rfl⟩
  go_wp2_with fail
  refine HN.out.mono ?_
  rintro e w1 ⟨p', l', m', rfl, hf1, hp, hl, hm, hd⟩
  have hsep' : p' ≠ l' ∧ p' ≠ m' := ⟨hd.pl, hd.pm⟩
  have hlt' : p' < w1.heap.size ∧ l' < w1.heap.size ∧ m' < w1.heap.size := (DvAt.lts (b := 0) (v := ⟨0, -1, false, fun _ => zeros, fun _ => none⟩) ⟨hd, by simp, by simp⟩)
  have HD := Lib.hid (show DvAt w1 p' l' m' n n 0 ⟨0, -1, false, fun _ => zeros, fun _ => none⟩ from ⟨hd, by simp, by simp⟩)
  have H1 := Lib.hid (H.out.keep hf1 (by simp) (by simp) (by simp)); have HF1 := Lib.hid hf1
  clear hd hf1 HN HS
  go_wp2_with fail
  go_loopw [5] (fun v5 wr => ∃ (i : Nat) (c' c2 : Int), i ≤ n ∧ v5 = .int .i64 i ∧ DvAt wr p l m n q (b + i) ⟨c2, -1, false, ls, fun _ => none⟩ ∧ DvAt wr p' l' m' n n i ⟨c', -1, false, fun _ => zeros, firstW ls i⟩ ∧ Fr [p] w wr) (fun v5 _ => n - (intOf v5).toNat)
  case atStart => exact ⟨0, 0, c, by omega, rfl, H1.out.more (by omega), by rw [show firstW ls 0 = fun _ => none from by funext k; unfold firstW; rw [if_neg (by omega)]]; exact HD.out, HF1.out.mono (by simp)⟩
  case round =>
    clear H1 HD
    rename World => wr
    obtain ⟨i, c', c2, hi, rfl, hd, hd', hf⟩ := hrel
    have hw1 : IntKind.i64.wrap ((i : Int) + 1) = (i : Int) + 1 := IntWalk.i64_in _ (by omega)
    have HS := Lib.hid (size_calls wr p l m n q c2 (-1) false ls (fun _ => none) hd.at_)
    by_cases hlt : i < n
    · have hlt' : (i : Int) < (n : Int) := by omega
      have HR := Lib.hid (dread_calls wr p l m n q (b + i) _ hd (by omega) i hlt)
      have HD := Lib.hid hd; have HD' := Lib.hid hd'; have HF := Lib.hid hf
      have hszr := hf.size
      clear hd hd' hf
      go_wp2_with fail
      refine HS.out.mono ?_
      rintro e w2 ⟨rfl, rfl⟩
      go_wp2_with fail
      refine HR.out.mono ?_
      rintro e w3 ⟨x, rfl, hf3, hd3, ho⟩
      have ht : (⟨c2, -1, false, ls, fun _ => none⟩ : Dv).text i = ls i := rfl
      rw [ht] at ho
      have hl64 : (ls i).length = 64 := by obtain ⟨_, _, _, h3⟩ := HD.out.at_.las; exact (h3 i hlt).1
      rw [hl64] at ho
      obtain ⟨g, cap, rfl, hg1, hg2, hr⟩ := row_range ho (by omega)
      have hd3' := HD'.out.keep hf3 (by simp; omega) (by simp; omega) (by simp; omega)
      have hltg := HD'.out.lts
      have HW := Lib.hid (dwrite_calls w3 p' l' m' n n i _ hd3' (by omega) i hlt g 0 cap (ls i) hl64 hr (by omega))
      have HD3 := Lib.hid (show DvAt w3 p l m n q (b + i + 1) ⟨c2 + 1, -1, false, ls, fun _ => none⟩ from hd3); have HF3 := Lib.hid (HF.out.trans hf3)
      clear hd3 hd3' hf3 ho hr HR ht
      go_wp2_with fail
      refine HW.out.mono ?_
      rintro e w4 ⟨rfl, hf4, hd4⟩
      have hd4' : DvAt w4 p' l' m' n n (i + 1) ⟨c' + 1, -1, false, fun _ => zeros, firstW ls (i + 1)⟩ := by
        have : (Dv.write ⟨c', -1, false, fun _ => zeros, firstW ls i⟩ i (ls i)).2 = ⟨c' + 1, -1, false, fun _ => zeros, firstW ls (i + 1)⟩ := by
          rw [← firstW_wrote]; rfl
        rw [this] at hd4
        exact hd4
      have HD4' := Lib.hid hd4'
      have HD4 := Lib.hid (HD3.out.keep hf4 (by simp; omega) (by simp; omega) (by simp; omega))
      have HF4 := Lib.hid (HF3.out.trans_new hf4 (fun z hz => by simp at hz; omega))
      have hcode : (Dv.write ⟨c', -1, false, fun _ => zeros, firstW ls i⟩ i (ls i)).1 = 0 := rfl
      rw [hcode]
      clear hd4 hd4' hf4 HW hcode
      go_wp2_with fail
      go_roundw
      case rel => exact ⟨i + 1, c' + 1, c2 + 1, by omega, by go_num, HD4.out.more (by omega), HD4'.out.more (by omega), HF4.out⟩
      case measure => simp [intOf]; omega
    · obtain rfl : n = i := by omega
      have hlt' : ¬ (n : Int) < (n : Int) := by omega
      have HFL := Lib.hid (dflush_calls wr p' l' m' n n n _ hd' (by omega))
      have HF := Lib.hid hf
      have hlen : ∀ i, i < n → (ls i).length = 64 := fun i hi => by obtain ⟨_, _, _, h3⟩ := hd.at_.las; exact (h3 i hi).1
      have HLEN := Lib.hid hlen
      clear hd hd' hf hlen
      go_wp2_with fail
      refine HS.out.mono ?_
      rintro e w2 ⟨rfl, rfl⟩
      go_wp2_with fail
      refine HFL.out.mono ?_
      rintro e w3 ⟨rfl, hf3, hd3⟩
      have hcode : (Dv.flush ⟨c', -1, false, fun _ => zeros, firstW ls n⟩).1 = 0 := rfl
      rw [hcode]
      have hd4 : DvAt w3 p' l' m' n n (n + 1) ⟨c' + 1, -1, false, ls, fun _ => none⟩ := (show DvAt w3 p' l' m' n n (n + 1) ⟨c' + 1, -1, false, fun i : Nat => (firstW ls n (i : Int)).getD zeros, fun _ => none⟩ from hd3).ls (fun i hi => by
        show ls i = (firstW ls n (i : Int)).getD zeros
        unfold firstW
        rw [if_pos (by omega), Int.toNat_natCast]
        rfl)
      have HD4 := Lib.hid hd4; have HF4 := Lib.hid (HF.out.trans_new hf3 (fun z hz => by simp at hz; omega))
      clear hd3 hd4 hf3 HFL hcode
      go_wp2_with fail
      go_ret
      exact ⟨p', l', m', _, rfl, HF4.out, by omega, by omega, by omega, HD4.out.more (by omega)⟩
theorem dcrash_still (w : World) (p l m n q : Nat) (b : Int) (v : Dv) (h : DvAt w p l m n q b v) (hw : v.wt = fun _ => none) (flip : Bool) (ad : Option Addr) (len cap : Nat) (zs : List Int) (hz : IntsAt w ad len zs) (hlm : len ≤ 9223372036854775807) (hm : 0 < len → ∀ a, ad = some a → a.block ≠ m) :
    Calls Try.prog 18 #[.pointer (some ⟨p, 0, none⟩), .bool flip, .slice ad len cap] w fun e w' => ∃ m', e = .returned (.tuple #[]) ∧ Fr [p, l, m] w w' ∧ (m' = m ∨ w.heap.size ≤ m') ∧ DvAt w' p l m' n q b ⟨v.c, -1, false, v.ls, fun _ => none⟩ := by
  refine (crash_calls w p l m n q v.c v.f v.d v.ls v.wt h.at_ flip ad len cap zs hz hlm hm).mono ?_
  rintro e w' ⟨rfl, hf, m', hm', hd⟩
  refine ⟨m', rfl, hf, hm', ⟨?_, h.cb, by simp⟩⟩
  have e : (fun i : Nat => ((if flip = true then without v.wt zs len else among v.wt zs len) (i : Int)).getD (v.ls i)) = v.ls := by
    funext i
    cases flip <;> simp [among, without, hw]
  simp only at hd ⊢
  rw [e] at hd
  exact hd
end Go.Proofs.Ytoifpbifipgpkaa
