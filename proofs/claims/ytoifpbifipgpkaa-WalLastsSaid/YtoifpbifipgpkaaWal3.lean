/-
  wal: the head is written; a number is read.
-/
import Derived.Test.YtoifpbifipgpkaaWal2
namespace Go.Proofs.Ytoifpbifipgpkaa
open Go.RowKit Go.MapKept
/-- The head is written, and flushed. -/
def Dv.head (v : Dv) (N : Int) : Int × Dv := if (v.write (0 : Nat) (asK [N] 1)).1 = 0 then (v.write (0 : Nat) (asK [N] 1)).2.flush else v.write (0 : Nat) (asK [N] 1)
set_option maxHeartbeats 1000000 in
theorem writeHead_calls (w : World) (p l m n q : Nat) (b : Int) (v : Dv) (h : DvAt w p l m n q b v) (hb : b < 8999999999999999999) (hn : 0 < n) (N : Int) :
    Calls Try.prog 60 #[.pointer (some ⟨p, 0, none⟩), .int .i64 N] w fun e w' => e = .returned (.int .i64 (v.head N).1) ∧ Fr [p, l, m] w w' ∧ DvAt w' p l m n q (b + 2) (v.head N).2 := by
  have hlt := h.lts
  have hF : Fr [] w (w.alloc (.cells #[.int .i64 N] 3)) := (Fr.refl [] w).alloc _
  have hri : RI (w.alloc (.cells #[.int .i64 N] 3)) (some ⟨w.heap.size, 0, none⟩) [N] := fun _ => ⟨_, 0, rfl, fun j hj => by
    obtain rfl : j = 0 := by simpa using hj
    rw [box_cell (heap_alloc_new w _)]; rfl⟩
  have hA := asSector_calls _ _ 1 [N] hri (by simp)
  have HA := Lib.hid hA; have HF := Lib.hid hF
  have hW : ∀ w', Fr [] w w' → Calls Try.prog 70 #[.pointer (some ⟨p, 0, none⟩), .int .i64 (0 : Nat), secV (asK [N] 1)] w' _ := fun w' hf => wwrite_calls w' p l m n q b v (h.keep hf (by simp) (by simp) (by simp)) (by omega) 0 hn (asK [N] 1) (asK_length _ _)
  have HW := Lib.hid hW
  have hH : v.head N = if (v.write (0 : Nat) (asK [N] 1)).1 = 0 then (v.write (0 : Nat) (asK [N] 1)).2.flush else v.write (0 : Nat) (asK [N] 1) := rfl
  rw [hH]
  clear hH hA hF hW hri h
  obtain ⟨S, hS⟩ : ∃ S, asK [N] 1 = S := ⟨_, rfl⟩
  have hS' : asK [N] [N].length = S := hS
  rw [hS'] at HA
  rw [hS] at HW ⊢
  obtain ⟨r, hr⟩ : ∃ r, v.write (0 : Nat) S = r := ⟨_, rfl⟩
  rw [hr] at HW ⊢
  clear hS hS' hr
  obtain ⟨code, v1⟩ := r
  simp only at HW ⊢
  obtain ⟨sv, hsv⟩ : ∃ sv, secV S = sv := ⟨_, rfl⟩
  rw [hsv] at HA HW
  clear hsv
  by_cases hc : code = 0
  · subst hc
    simp only [↓reduceIte]
    go_enter Try.func60, Try.ntmps60
    go_wp2_with fail
    refine HA.out.mono ?_
    rintro e w1 ⟨rfl, hf1⟩
    have HF1 := Lib.hid (HF.out.trans hf1)
    clear hf1
    go_wp2_with fail
    refine (HW.out w1 HF1.out).mono ?_
    rintro e w2 ⟨rfl, hf2, hd2⟩
    have HF2 := Lib.hid ((HF1.out.mono (l' := [p, l, m]) (by simp)).trans (hf2.mono (by simp +contextual)))
    have HD2 := Lib.hid hd2
    clear hf2 hd2
    go_wp2_with fail
    refine (dflush_calls w2 p l m n q (b + 1) v1 HD2.out (by omega)).mono ?_
    rintro e w3 ⟨rfl, hf3, hd3⟩
    have HF3 := Lib.hid (HF2.out.trans hf3); have HD3 := Lib.hid (hd3.more (b' := b + 2) (by omega))
    clear hf3 hd3
    go_wp2_with fail
    go_ret
    exact ⟨rfl, HF3.out, HD3.out⟩
  · simp only [hc, if_false]
    go_enter Try.func60, Try.ntmps60
    go_wp2_with fail
    refine HA.out.mono ?_
    rintro e w1 ⟨rfl, hf1⟩
    have HF1 := Lib.hid (HF.out.trans hf1)
    clear hf1
    go_wp2_with fail
    refine (HW.out w1 HF1.out).mono ?_
    rintro e w2 ⟨rfl, hf2, hd2⟩
    have HF2 := Lib.hid ((HF1.out.mono (l' := [p, l, m]) (by simp)).trans (hf2.mono (by simp +contextual)))
    have HD2 := Lib.hid hd2
    clear hf2 hd2
    have HD3 := Lib.hid (HD2.out.more (b' := b + 2) (by omega))
    go_wp2_with fail
    go_ret
    exact ⟨rfl, HF2.out, HD3.out⟩
/-- The number at a place of a sector. -/
def numAt (s : List UInt8) (k : Nat) : Int := bits .or .i64 (s.getD (2 * k) 0).toNat ((s.getD (2 * k + 1) 0).toNat * 256)
set_option maxHeartbeats 1000000 in
theorem readNumber_calls (w : World) (p l m n q : Nat) (b : Int) (v : Dv) (h : DvAt w p l m n q b v) (hb : b < 9000000000000000000) (i : Nat) (hi : i < n) (k : Nat) (hk : k < 32) :
    Calls Try.prog 63 #[.pointer (some ⟨p, 0, none⟩), .int .i64 i, .int .i64 k] w fun e w' => e = .returned (.tuple #[.int .i64 (if v.d then 0 else numAt (v.text i) k), .int .i64 (v.read i).1]) ∧ Fr [p] w w' ∧ DvAt w' p l m n q (b + 1) (v.read i).2 := by
  have hlen := Dv.text_len h hi
  have HK := Lib.hid (dread_calls w p l m n q b v h hb i hi)
  have hcode : (v.read i).1 = if v.d then 50 else 0 := by unfold Dv.read; split <;> rfl
  rw [hcode] at HK ⊢
  generalize v.text i = s at *
  generalize (v.read i).2 = v' at *
  generalize v.d = dd at *
  clear h hcode
  have hkk : (0 : Int) ≤ (k : Int) := by omega
  have i0 : (2 * (k : Int)).toNat = 2 * k := by omega
  have i1 : (2 * (k : Int) + 1).toNat = 2 * k + 1 := by omega
  have i2 : (0 : Int) ≤ 2 * (k : Int) := by omega
  have i3 : 2 * (k : Int) < 64 := by omega
  have i4 : (0 : Int) ≤ 2 * (k : Int) + 1 := by omega
  have i5 : 2 * (k : Int) + 1 < 64 := by omega
  have i7 : IntKind.i64.wrap (2 * (k : Int)) = 2 * (k : Int) := IntWalk.i64_in _ (by omega)
  have i8 : IntKind.i64.wrap (2 * (k : Int) + 1) = 2 * (k : Int) + 1 := IntWalk.i64_in _ (by omega)
  cases dd with
  | true =>
    simp only [↓reduceIte] at HK ⊢
    go_enter Try.func63, Try.ntmps63
    go_wp2_with fail
    refine HK.out.mono ?_
    rintro e w1 ⟨x, rfl, hf, hd, _⟩
    have HF := Lib.hid hf; have HD := Lib.hid hd
    clear hf hd
    go_wp2_with fail
    go_ret2
    exact ⟨rfl, HF.out, HD.out⟩
  | false =>
    simp only [Bool.false_eq_true, if_false] at HK hlen ⊢
    have h0 : (cel s)[2 * k]? = some (.int .u8 (s.getD (2 * k) 0).toNat) := by rw [cel_get]; simp [show 2 * k < s.length by omega]
    have h1 : (cel s)[2 * k + 1]? = some (.int .u8 (s.getD (2 * k + 1) 0).toNat) := by rw [cel_get]; simp [show 2 * k + 1 < s.length by omega]
    unfold numAt
    have u0 := (s.getD (2 * k) 0).toNat_lt; have u1 := (s.getD (2 * k + 1) 0).toNat_lt
    generalize (s.getD (2 * k) 0).toNat = x0 at *
    generalize (s.getD (2 * k + 1) 0).toNat = x1 at *
    have H0 := Lib.hid h0; have H1 := Lib.hid h1
    clear h0 h1
    go_enter Try.func63, Try.ntmps63
    go_wp2_with fail
    refine HK.out.mono ?_
    rintro e w1 ⟨x, rfl, hf, hd, ho⟩
    have hl64 : 64 ≤ 64 := Nat.le_refl _
    rw [hlen] at ho
    obtain ⟨g, cap, rfl, _, _, hrg⟩ := row_range ho (by omega)
    have c0 : w1.cell? ⟨g, 2 * k, none⟩ = some (.int .u8 x0) := by
      have := hrg (2 * k) _ H0.out
      rwa [Nat.zero_add] at this
    have c1 : w1.cell? ⟨g, 2 * k + 1, none⟩ = some (.int .u8 x1) := by
      have := hrg (2 * k + 1) _ H1.out
      rwa [Nat.zero_add] at this
    have j0 : IntKind.i64.wrap (x0 : Int) = x0 := IntWalk.i64_in _ (by omega)
    have j1 : IntKind.i64.wrap (x1 : Int) = x1 := IntWalk.i64_in _ (by omega)
    have j2 : IntKind.i64.wrap ((x1 : Int) * 256) = x1 * 256 := IntWalk.i64_in _ (by omega)
    have HF := Lib.hid hf; have HD := Lib.hid hd
    clear hf hd ho hrg hlen
    go_wp2_with fail
    go_quiet (fail)
    have HZ := Lib.hid (HF.out.trans ((drewN_fr0 w1 nq).mono (by simp))); have HDZ := Lib.hid (HD.out.keep (drewN_fr0 w1 nq) (by simp) (by simp) (by simp))
    go_wp2_with fail
    go_ret2
    exact ⟨rfl, HZ.out, HDZ.out⟩
end Go.Proofs.Ytoifpbifipgpkaa
