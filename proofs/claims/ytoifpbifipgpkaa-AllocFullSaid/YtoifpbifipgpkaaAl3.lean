/-
  alloc: a map's sectors are read, a bit is turned.
-/
import Derived.Test.YtoifpbifipgpkaaAl2
import Derived.Test.YtoifpbifipgpkaaWal29
import Derived.Deep.RegionHeld3
namespace Go.Proofs.Ytoifpbifipgpkaa
open Go.RowKit Go.MapKept
theorem Bytes64.range {w : World} {B : Nat} {x : Value} {T : List UInt8} (h : Bytes64 w B x T) : ∃ g cap, x = .slice (some ⟨g, 0, none⟩) 64 cap ∧ B ≤ g ∧ g < w.heap.size ∧ w.rangeAt g 0 (cel T) ∧ ∃ cur t, w.heap[g]? = some (.cells cur t (0, 0)) ∧ cur.toList.take 64 = cel T := by
  obtain ⟨g, cap, cur, t, rfl, hg, hb, _, ht⟩ := h
  refine ⟨g, cap, rfl, hg, lt_of_heap hb, fun j v hv => ?_, cur, t, hb, ht⟩
  rw [box_cell hb, Nat.zero_add]
  have : (cur.toList.take 64)[j]? = some v := by rw [ht]; exact hv
  rw [List.getElem?_take] at this
  split at this
  · simpa using this
  · cases this
section
variable {w : World} {bs : List Nat} {s p l m nd q : Nat} {b : Int} {S : Sv} {h : Nat} {at' n : Nat}
/-- What a read of sector j of a map makes. -/
def ReadPost (w : World) (bs : List Nat) (s p l m nd q : Nat) (b : Int) (S : Sv) (k : Nat) (e : Ending) (w' : World) : Prop :=
  ∃ x c, e = .returned (.tuple #[x, .int .i64 0]) ∧ Fr bs w w' ∧ StAt w' bs s p l m nd q (b + 1) (S.asked c) ∧ Bytes64 w' w.heap.size x (S.tell k)
set_option maxRecDepth 100000 in
set_option maxHeartbeats 1000000 in
theorem aread_calls (hst : StAt w bs s p l m nd q b S) (hg : S.gone = false) (hv : S.v.d = false) (hm : MapBox w h s at' n) (hh : h ∉ bs) (i : Nat) (hi : at' + i / 512 + 300 < nd) (hb : b < 9000000000000000000) (hi2 : i ≤ 8192) :
    Calls Try.prog 52 #[.pointer (some ⟨h, 0, none⟩), .int .i64 i] w (ReadPost w bs s p l m nd q b S (at' + i / 512)) := by
  have hfd : Fr [] w w.drew := (Fr.refl [] w).drew
  have hrd := st_read (hst.keep hfd (by simp)) hg hv (at' + i / 512) (by omega) hb
  have hnb := hst.dev.at_.nb
  have HS : Hid (∀ W, Fr bs w W → W.cell? ⟨h, 0, none⟩ = some (.pointer (some ⟨s, 0, none⟩)) ∧ W.cell? ⟨h, 1, none⟩ = some (.int .i64 at')) := Lib.hid (fun W hW => by
    have := hW.keep hm hh
    exact ⟨(box_cell this 0).trans rfl, (box_cell this 1).trans rfl⟩)
  obtain ⟨k, hk⟩ : ∃ k : Nat, k = at' + i / 512 := ⟨_, rfl⟩
  have e0 : (0 : Int) ≤ (i : Int) := by omega
  have e2 : IntKind.i64.wrap ((i : Int) / 512) = (i : Int) / 512 := IntWalk.i64_in _ (by omega)
  have e1 : IntKind.i64.wrap ((at' : Int) + (i : Int) / 512) = (k : Int) := by
    have : (at' : Int) + (i : Int) / 512 = (k : Int) := by omega
    rw [this]; exact IntWalk.i64_in _ (by omega)
  rw [← hk] at hrd ⊢
  have HRD := Lib.hid hrd
  clear hrd hst hm hk hi
  go_enter Try.func52, Try.ntmps52
  go_wp2_with fail
  have hq : Fr bs w w.drew := (Fr.refl bs w).drew
  have hc0 := HS.out _ hq
  obtain ⟨hc1, hc2⟩ := hc0
  go_region_held3 (fun w' => w'.cell? ⟨h, 0, none⟩ = some (.pointer (some ⟨s, 0, none⟩)) ∧ w'.cell? ⟨h, 1, none⟩ = some (.int .i64 at'))
    (exact HS.out _ hq)
    (first | (go_at_call 20; (with_reducible refine HRD.out.mono ?_); rintro e w1 ⟨x, c, rfl, hf1, hst1, hx1⟩; have hq := hq.trans hf1; have HST1 := Lib.hid hst1; have HX1 := Lib.hid hx1; clear hst1 hx1 hf1))
  all_goals
    go_wp2_with fail
    go_ret2
    exact ⟨x, c, rfl, hq, HST1.out, HX1.out⟩
theorem areadOf_none (hm : MapBox w h s at' n) (i : Int) (hi : i < 0 ∨ n ≤ i) :
    Calls Try.prog 56 #[.pointer (some ⟨h, 0, none⟩), .int .i64 i] w fun e w' => e = .returned (.tuple #[.slice none 0 0, .int .i64 1]) ∧ w = w' := by
  have hc := box_cell hm
  clear hm
  by_cases h0 : i < 0
  · go_enter Try.func56, Try.ntmps56
    go_wp2_with fail
    go_ret2
    exact ⟨rfl, rfl⟩
  · have h1 : (n : Int) ≤ i := by omega
    go_enter Try.func56, Try.ntmps56
    go_wp2_with fail
    go_ret2
    exact ⟨rfl, rfl⟩
theorem areadOf_calls (hst : StAt w bs s p l m nd q b S) (hg : S.gone = false) (hv : S.v.d = false) (hm : MapBox w h s at' n) (hh : h ∉ bs) (i : Nat) (hin : i < n) (hi : at' + i / 512 + 300 < nd) (hb : b < 9000000000000000000) (hi2 : i ≤ 8192) :
    Calls Try.prog 56 #[.pointer (some ⟨h, 0, none⟩), .int .i64 i] w (ReadPost w bs s p l m nd q b S (at' + i / 512)) := by
  have HR := Lib.hid (aread_calls hst hg hv hm hh i hi hb hi2)
  have hc := box_cell hm
  have h0 : ¬ (i : Int) < 0 := by omega
  have h1 : (i : Int) < (n : Int) := by omega
  clear hm hst
  go_enter Try.func56, Try.ntmps56
  go_wp2_with fail
  refine HR.out.mono ?_
  rintro e w1 ⟨x, c, rfl, hf, hst1, hx1⟩
  have HF := Lib.hid hf; have HST1 := Lib.hid hst1; have HX1 := Lib.hid hx1
  clear hf hst1 hx1
  go_wp2_with fail
  go_ret2
  exact ⟨x, c, rfl, HF.out, HST1.out, HX1.out⟩
/-- What a write of a sector makes of a store. -/
def Sv.put' (S : Sv) (i : Nat) (x : List UInt8) : Sv := { S with U := wrote S.U i x, k := if (S.U i).isSome then S.k else S.k + 1 }
set_option maxRecDepth 100000 in
set_option maxHeartbeats 1000000 in
theorem turn_calls (hst : StAt w bs s p l m nd q b S) (hg : S.gone = false) (hv : S.v.d = false) (hm : MapBox w h s at' n) (hh : h ∉ bs) (i : Nat) (hi : at' + i / 512 + 300 < nd) (hi2 : i ≤ 8192)
    (g cap : Nat) (cur : Array Value) (t : TypeId) (f : Nat → Bool) (hgb : w.heap[g]? = some (.cells cur t (0, 0))) (htk : cur.toList.take 64 = cel (secOf f (i / 512))) (hgs : g ∉ bs) (hgh : g ≠ h) (hroom : (S.U ((at' + i / 512 : Nat) : Int)).isSome = true ∨ S.k < 128) :
    Calls Try.prog 55 #[.pointer (some ⟨h, 0, none⟩), .slice (some ⟨g, 0, none⟩) 64 cap, .int .i64 i] w fun e w' => e = .returned (.int .i64 0) ∧ Fr (g :: bs) w w' ∧ StAt w' bs s p l m nd q b (S.put' (at' + i / 512) (secOf (flip f i) (i / 512))) := by
  have hnb := hst.dev.at_.nb
  obtain ⟨k, hk⟩ : ∃ k : Nat, at' + i / 512 = k := ⟨_, rfl⟩
  rw [hk] at hi hroom ⊢
  have f2 : IntKind.i64.wrap ((i : Int) / 512) = (i : Int) / 512 := IntWalk.i64_in _ (by omega)
  have f1 : IntKind.i64.wrap ((at' : Int) + (i : Int) / 512) = (k : Int) := by
    rw [show (at' : Int) + (i : Int) / 512 = (k : Int) by omega]; exact IntWalk.i64_in _ (by omega)
  obtain ⟨kk, hkk⟩ : ∃ kk : Nat, kk = i % 512 / 8 := ⟨_, rfl⟩
  obtain ⟨r, hr8⟩ : ∃ r : Nat, r = i % 8 := ⟨_, rfl⟩
  have hcl : (cur.toList.take 64).length = 64 := by rw [htk, secOf_cel_len]
  have hsz : 64 ≤ cur.size := by rw [List.length_take] at hcl; simp at hcl; omega
  obtain ⟨x0, hx0⟩ : ∃ x0, b8 f (512 * (i / 512) + 8 * kk) = x0 := ⟨_, rfl⟩
  have hc : w.cell? ⟨g, kk, none⟩ = some (.int .u8 x0) := by
    rw [box_cell hgb]
    have h1 : (cur.toList.take 64)[kk]? = some (.int .u8 x0) := by rw [htk, secOf_get f (i / 512) (by omega), hx0]
    rw [List.getElem?_take_of_lt (by omega)] at h1
    simpa using h1
  have hfz : w.frozen? ⟨g, kk, none⟩ = false := box_free hgb kk
  have hflip := b8_flip f (512 * (i / 512) + 8 * kk) (r := r) (by omega)
  rw [show 512 * (i / 512) + 8 * kk + r = i by omega, hx0] at hflip
  obtain ⟨x1, hx1⟩ : ∃ x1, b8 (flip f i) (512 * (i / 512) + 8 * kk) = x1 := ⟨_, rfl⟩
  rw [hx1] at hflip
  -- the sector's bytes behind the store
  have hset : (cur.set! kk (.int .u8 x1)).toList.take 64 = cel (secOf (flip f i) (i / 512)) := by
    rw [← secOf_flip f i, ← hkk, hx1, ← htk]
    refine List.ext_getElem? fun j => ?_
    rw [List.getElem?_set, List.getElem?_take, List.getElem?_take, hcl]
    by_cases hj : j < 64
    · simp only [hj, if_true]
      by_cases e : kk = j
      · subst e
        simp [hj, show kk < cur.size by omega]
      · simp [e, Array.getElem?_setIfInBounds]
    · simp [hj]
      intro e; omega
  have ei : (0 : Int) ≤ (i : Int) := by omega
  have e0 : (i : Int) % 512 / 8 = (kk : Int) := by omega
  have e1 : (i : Int) % 8 = (r : Int) := by omega
  have e2 : (0 : Int) ≤ (i : Int) % 512 := by omega
  have e3 : (r : Int) ≤ 8 := by omega
  have e4 : (0 : Int) ≤ (r : Int) := by omega
  have e5 : (kk : Int) < 64 := by omega
  have e6 : (0 : Int) ≤ (kk : Int) := by omega
  have e8 : ((kk : Int)).toNat = kk := by omega
  have e9 : IntKind.i64.wrap (kk : Int) = kk := IntWalk.i64_in _ (by omega)
  have HI := Lib.hid hi; have HST := Lib.hid hst; have HM := Lib.hid hm; have HSET := Lib.hid hset; have HG := Lib.hid hgb
  clear hkk hr8 hk hi hst hm hset hgb hx0 hx1 htk hcl
  have hp : (2 : Int) ^ r % 256 = ((2 ^ r : Nat) : Int) := by
    have h1 : 2 ^ r < 256 := by
      have : 2 ^ r < 2 ^ 8 := Nat.pow_lt_pow_right (by decide) (by omega)
      exact this
    rw [Int.natCast_pow]
    refine Int.emod_eq_of_lt (Int.pow_nonneg (by decide)) ?_
    have : ((2 ^ r : Nat) : Int) < 256 := by omega
    rwa [Int.natCast_pow] at this
  have hx : bits .xor .u8 (x0 : Int) ((2 : Int) ^ r % 256) = (x1 : Int) := by rw [hp]; exact hflip
  clear hp hflip
  go_enter Try.func55, Try.ntmps55
  go_wp2_with fail
  go_region
  clear hx hc hfz
  have hb1 : (w.setCell ⟨g, kk, none⟩ (.int .u8 x1)).drew.heap[g]? = some (.cells (cur.setIfInBounds kk (.int .u8 x1)) t (0, 0)) := box_set HG.out kk _
  have hF1 : Fr [g] w (w.setCell ⟨g, kk, none⟩ (.int .u8 x1)).drew := ((Fr.refl [g] w).setCell (.inl (by simp)) _).drew
  generalize (w.setCell ⟨g, kk, none⟩ (.int .u8 x1)).drew = W at *
  have hst1 := HST.out.keep (hF1.drew) (by simpa using hgs)
  have hr1 : W.drew.rangeAt g 0 (cel (secOf (flip f i) (i / 512))) := fun j v hv => by
    have hbd : W.drew.heap[g]? = _ := hb1
    rw [box_cell hbd, Nat.zero_add]
    have : ((cur.setIfInBounds kk (.int .u8 x1)).toList.take 64)[j]? = some v := (congrArg (·[j]?) HSET.out).trans hv
    rw [List.getElem?_take] at this
    split at this
    · rw [← Array.getElem?_toList]; exact this
    · cases this
  have hwr := st_write hst1 hg hv k HI.out g 0 cap _ (secOf_len _ _) hr1 hgs hroom
  have HS : Hid (∀ V, Fr bs W V → V.cell? ⟨h, 0, none⟩ = some (.pointer (some ⟨s, 0, none⟩)) ∧ V.cell? ⟨h, 1, none⟩ = some (.int .i64 at')) := Lib.hid (fun V hV => by
    have := hV.keep (hF1.keep HM.out (by simpa using fun e => hgh e.symm)) hh
    exact ⟨(box_cell this 0).trans rfl, (box_cell this 1).trans rfl⟩)
  have HWR := Lib.hid hwr; have HF1 := Lib.hid hF1
  clear hwr hst1 hr1 hb1 hF1 HSET HG HI HST HM
  go_wp2_with fail
  have hq : Fr bs W W.drew := (Fr.refl bs W).drew
  obtain ⟨hc1, hc2⟩ := HS.out _ hq
  go_region_held3 (fun w' => w'.cell? ⟨h, 0, none⟩ = some (.pointer (some ⟨s, 0, none⟩)) ∧ w'.cell? ⟨h, 1, none⟩ = some (.int .i64 at'))
    (exact HS.out _ hq)
    (first | (go_at_call 13; (with_reducible refine HWR.out.mono ?_); rintro e w1 ⟨rfl, hf1, hst1⟩; have hq := hq.trans hf1; have HST1 := Lib.hid hst1; clear hst1 hf1))
  all_goals
    go_wp2_with fail
    go_ret
    exact ⟨rfl, (HF1.out.mono (by simp)).trans (hq.mono (by simp +contextual)), HST1.out⟩
end
end Go.Proofs.Ytoifpbifipgpkaa
