/-
  wal: a change is brought home.
-/
import Derived.Test.YtoifpbifipgpkaaWal4
namespace Go.Proofs.Ytoifpbifipgpkaa
open Go.RowKit Go.MapKept
section
variable {P : Program} {ops : Array Oper} {rest : List Oper} {o : Oper} {a : Act} {w : World} {Q : Exit → Act → World → Prop}
theorem wL_lookup1 (hg : o.guard = none) (m x : Operand) (T : TypeId) (hop : o.op = .lookup T m x false) (K E : TypeId) (hT : P.underlying T = some (.map K E)) (hK : P.underlying K = some (.int .i64))
    (z : Value) (hz : ∀ w : World, (zeroValue E).run P w = .ok z w) (b : Nat) (hm : a.eval m = .map (some b)) (i : Int) (hx : a.eval x = .int .i64 i) (f : Int → Option Value) (hmap : IMap w b f)
    (v : Value) (hr : f i = some v) (h : wpList P ops Q rest (a.put o.dst v) w) : wpList P ops Q (o :: rest) a w := by
  refine wpList_val hg (v := v) (w' := w) ?_ h
  simp [execOp, hop, hm, hx, run_lookup1_i hmap hT hK (hz w), hr]
end
/-- Sectors are written one behind the other, as long as it goes well. -/
def Dv.puts (v : Dv) (f : Int → List UInt8) (o : Int) : List Int → Int × Dv
  | [] => (0, v)
  | i :: is => if (v.write (o + i) (f i)).1 = 0 then (v.write (o + i) (f i)).2.puts f o is else v.write (o + i) (f i)
theorem Dv.puts_append (f : Int → List UInt8) (o : Int) : ∀ (xs ys : List Int) (v : Dv), v.puts f o (xs ++ ys) = if (v.puts f o xs).1 = 0 then (v.puts f o xs).2.puts f o ys else v.puts f o xs
  | [], ys, v => by simp [Dv.puts]
  | i :: xs, ys, v => by
    simp only [List.cons_append, Dv.puts]
    by_cases h : (v.write (o + i) (f i)).1 = 0
    · simp only [h, ↓reduceIte]; exact Dv.puts_append f o xs ys _
    · simp only [h, ↓reduceIte]
theorem Dv.puts_ok {v v' : Dv} {f : Int → List UInt8} {o : Int} {ks : List Int} {k : Nat} (h : v.puts f o (ks.take k) = (0, v')) (hk : k < ks.length) (hr : (v'.write (o + ks.getD k 0) (f (ks.getD k 0))).1 = 0) :
    v.puts f o (ks.take (k + 1)) = (0, (v'.write (o + ks.getD k 0) (f (ks.getD k 0))).2) := by
  have e : ks.getD k 0 = ks[k] := by simp [hk]
  rw [List.take_succ_eq_append_getElem hk, Dv.puts_append, h, ← e]
  simp only [Dv.puts, hr, if_true]
theorem Dv.puts_bad {v v' : Dv} {f : Int → List UInt8} {o : Int} {ks : List Int} {k : Nat} (h : v.puts f o (ks.take k) = (0, v')) (hk : k < ks.length) (hr : (v'.write (o + ks.getD k 0) (f (ks.getD k 0))).1 ≠ 0) :
    v.puts f o ks = v'.write (o + ks.getD k 0) (f (ks.getD k 0)) := by
  have e : ks.getD k 0 = ks[k] := by simp [hk]
  have hs : ks.take k ++ ks[k] :: ks.drop (k + 1) = ks := by simp
  rw [show v.puts f o ks = v.puts f o (ks.take k ++ ks[k] :: ks.drop (k + 1)) by rw [hs], Dv.puts_append, h, ← e]
  simp only [Dv.puts, if_true]
  rw [if_neg hr]
/-- A change's text of a sector. -/
def txt (C : Int → Option (List UInt8)) (i : Int) : List UInt8 := (C i).getD []
/-- Brought home: the sectors, a flush, the head. -/
def Dv.home (v : Dv) (C : Int → Option (List UInt8)) (ks : List Int) : Int × Dv :=
  if (v.puts (txt C) 300 ks).1 = 0 then (if (v.puts (txt C) 300 ks).2.flush.1 = 0 then (v.puts (txt C) 300 ks).2.flush.2.head 0 else (v.puts (txt C) 300 ks).2.flush) else v.puts (txt C) 300 ks
/-- The numbers of a change, rising. -/
structure KeysOf (C : Int → Option (List UInt8)) (ks : List Int) : Prop where
  mem : ∀ x, x ∈ ks ↔ ∃ s, C x = some s
  nd : ks.Nodup
  up : ks.Pairwise (· ≤ ·)
/-- A change in memory, for a device of n sectors. -/
structure ChAt (w : World) (mc n : Nat) (C : Int → Option (List UInt8)) : Prop where
  map : IMap w mc (fun i => (C i).map secV)
  dom : ∀ i s, C i = some s → 0 ≤ i ∧ i + 300 < n ∧ s.length = 64
theorem ChAt.keep {w w' : World} {mc n : Nat} {C : Int → Option (List UInt8)} (h : ChAt w mc n C) {r : List Nat} (hf : Fr r w w') (hm : mc ∉ r) : ChAt w' mc n C := ⟨h.map.keep (hf.block mc h.map.lt hm), h.dom⟩
theorem Try.zeroWS2 (w : World) : (zeroValue 82).run Try.prog w = .ok (secV zeros) w := by kernel_rfl
theorem nodup_bound2 (n : Nat) (l : List Int) (h1 : l.Nodup) (h2 : ∀ x ∈ l, 0 ≤ x ∧ x < (n : Int)) : l.length ≤ n := nodup_bound n l h1 h2
set_option maxRecDepth 100000 in
set_option maxHeartbeats 2000000 in
theorem bringHome_calls (w : World) (p l m n q : Nat) (b : Int) (v : Dv) (h : DvAt w p l m n q b v) (hb : b < 8999999999999000000) (mc : Nat) (C : Int → Option (List UInt8)) (hC : ChAt w mc n C) (hmc : mc ≠ p ∧ mc ≠ l ∧ mc ≠ m) (hn : 0 < n) :
    Calls Try.prog 61 #[.pointer (some ⟨p, 0, none⟩), .map (some mc)] w fun e w' => ∃ ks, KeysOf C ks ∧ e = .returned (.int .i64 (v.home C ks).1) ∧ Fr [p, l, m] w w' ∧ DvAt w' p l m n q (b + n + 3) (v.home C ks).2 := by
  have hnb := h.at_.nb
  have hlt := h.lts
  have hcl := hC.map.lt
  have HI := Lib.hid (inOrder_calls w mc n C hC.map (fun i s hs => by have := hC.dom i s hs; omega) hnb)
  have HC := Lib.hid hC; have HD := Lib.hid h
  clear hC h
  go_enter Try.func61, Try.ntmps61
  go_wp2_with fail
  refine HI.out.mono ?_
  rintro e w1 ⟨vx, ks, rfl, hmem, hnd, hup, hown, _, hf1⟩
  have hK : KeysOf C ks := ⟨hmem, hnd, hup⟩
  have hkin : ∀ x ∈ ks, ∃ s, C x = some s ∧ 0 ≤ x ∧ x + 300 < n ∧ s.length = 64 := fun x hx => by
    obtain ⟨s, hs⟩ := (hmem x).1 hx
    exact ⟨s, hs, HC.out.dom x s hs⟩
  have hkl : ks.length ≤ n := nodup_bound2 n ks hnd (fun x hx => by obtain ⟨_, _, h0, h1, _⟩ := hkin x hx; omega)
  have hri : ∃ a cap, vx = .slice a ks.length cap ∧ ∀ w', Fr [p, l, m] w1 w' → RI w' a ks := by
    by_cases h0 : 0 < ks.length
    · obtain ⟨g, cap, rfl, hBg, _, hrg⟩ := row_range hown h0
      refine ⟨_, cap, rfl, fun w' hf _ => ⟨g, 0, rfl, fun j hj => ?_⟩⟩
      have := hrg j (.int .i64 (ks.getD j 0)) (by simp [hj])
      rw [World.cell?_of_block (w := w1) (hf.block g (World.block_lt_of_cell? _ _ this) (by simp; omega))]; exact this
    · have hz : ks = [] := List.eq_nil_of_length_eq_zero (by omega)
      rcases hown.2 with ⟨rfl, _⟩ | ⟨g, cap, cur, rfl, _⟩
      · exact ⟨none, 0, by rw [hz]; rfl, fun w' _ h => by rw [hz] at h; simp at h⟩
      · exact ⟨_, cap, rfl, fun w' _ h => absurd h h0⟩
  obtain ⟨ax, cx, rfl, hri⟩ := hri
  have HRI := Lib.hid hri; have HK := Lib.hid hK; have HKI := Lib.hid hkin; have HF1 := Lib.hid hf1
  have hD1 := HD.out.keep hf1 (by simp) (by simp) (by simp)
  have hC1 := HC.out.keep hf1 (by simp)
  have HD1 := Lib.hid hD1; have HC1 := Lib.hid hC1
  clear hri hK hkin hmem hnd hup hown hD1 hC1 hf1 HI HC
  obtain ⟨K, hKl⟩ : ∃ K, ks.length = K := ⟨_, rfl⟩
  have HKL := Lib.hid hKl
  rw [hKl] at hkl ⊢
  clear hKl
  go_wp2_with fail
  go_loopw [12] (fun v12 wr => ∃ (k : Nat) (vk : Dv), k ≤ K ∧ v12 = .int .i64 k ∧ v.puts (txt C) 300 (ks.take k) = (0, vk) ∧ DvAt wr p l m n q (b + k) vk ∧ Fr [p, l, m] w1 wr) (fun v12 _ => K - (intOf v12).toNat)
  case atStart => exact ⟨0, v, by omega, rfl, by simp [Dv.puts], HD1.out.more (by omega), Fr.refl _ _⟩
  case round =>
    clear HD1
    rename World => wr
    obtain ⟨k, vk, hk, rfl, hp, hd, hf⟩ := hrel
    by_cases hlk : k < K
    · have hlk' : (k : Int) < (K : Int) := by omega
      have hkl2 : k < ks.length := by rw [HKL.out]; exact hlk
      obtain ⟨bb, off, rfl, hcells⟩ := HRI.out wr hf (by rw [HKL.out]; omega)
      have hcell := hcells k hkl2
      have hgm : ks.getD k 0 ∈ ks := by
        have e : ks.getD k 0 = ks[k] := by simp [hkl2]
        rw [e]; exact List.getElem_mem _
      obtain ⟨s, hs, h0, h1, h64⟩ := HKI.out (ks.getD k 0) hgm
      have hok := fun hr => Dv.puts_ok (f := txt C) (o := 300) hp hkl2 hr
      have hbad := fun hr => Dv.puts_bad (f := txt C) (o := 300) hp hkl2 hr
      have ht : txt C (ks.getD k 0) = s := by unfold txt; rw [hs]; rfl
      obtain ⟨i, hi⟩ : ∃ i, ks.getD k 0 = i := ⟨_, rfl⟩
      rw [hi] at hcell hs h0 h1 hok hbad ht
      rw [ht] at hok hbad
      obtain ⟨j, hj⟩ : ∃ j : Nat, 300 + i = (j : Int) := ⟨(300 + i).toNat, by omega⟩
      rw [hj] at hok hbad
      have hW := wwrite_calls wr p l m n q (b + k) vk hd (by omega) j (by omega) s h64
      generalize vk.write j s = r at *
      obtain ⟨code, v'⟩ := r
      simp only at hW hok hbad
      have HW := Lib.hid hW; have HOK := Lib.hid hok; have HBAD := Lib.hid hbad; have HF := Lib.hid hf
      have hmap := (HC1.out.keep hf (by simp; omega)).map
      have HM := Lib.hid hmap; have HS := Lib.hid hs; have HJ := Lib.hid hj
      clear hW hok hbad hf hmap hs ht hi hcells hp hd hgm
      have hk0 : (0 : Int) ≤ (k : Int) := by omega
      have w3 : IntKind.i64.wrap (300 + i) = 300 + i := IntWalk.i64_in _ (by omega)
      go_wp2_with (first
        | ((with_reducible_and_instances refine id (α := wpList _ _ _ (⟨some 21, .lookup 85 _ _ false, _, _, _, _⟩ :: _) _ _) ?_); refine wL_lookup1 rfl _ _ 85 rfl 3 82 Try.underlying85 Try.underlying3 _ Try.zeroWS2 mc rfl i rfl _ HM.out (secV s) (by simp [HS.out]) ?_)
        | fail)
      refine HW.out.mono ?_
      rintro e w5 ⟨rfl, hf5, hd5⟩
      have hF5 := HF.out.trans (hf5.mono (l' := [p, l, m]) (by simp +contextual))
      have HF5 := Lib.hid hF5
      by_cases hc : code = 0
      · subst hc
        have HD5 := Lib.hid (hd5.more (b' := b + ((k + 1 : Nat) : Int)) (by omega))
        have HP := Lib.hid (HOK.out rfl)
        clear hd5 hf5 hF5 HW HOK HBAD HF
        go_wp2_with fail
        go_roundw
        case rel => exact ⟨k + 1, v', by omega, by go_num, HP.out, HD5.out, HF5.out⟩
        case measure => simp [intOf]; omega
      · have hb := HBAD.out hc
        have hh : v.home C ks = (code, v') := by unfold Dv.home; rw [hb]; simp only [hc, ↓reduceIte]
        have HD5 := Lib.hid (hd5.more (b' := b + n + 3) (by omega))
        have HH := Lib.hid hh
        clear hd5 hf5 hF5 HW HOK HBAD HF hb hh
        go_wp2_with fail
        go_ret
        exact ⟨ks, HK.out, by rw [HH.out]; rfl, (HF1.out.mono (by simp)).trans HF5.out, by rw [HH.out]; exact HD5.out⟩
    · obtain rfl : k = K := by omega
      rw [List.take_of_length_le (by rw [HKL.out]; exact Nat.le_refl _)] at hp
      have hfl := dflush_calls wr p l m n q (b + k) vk hd (by omega)
      obtain ⟨r, hr⟩ : ∃ r, vk.flush = r := ⟨_, rfl⟩
      rw [hr] at hfl
      obtain ⟨code, v2⟩ := r
      simp only at hfl
      have hh : v.home C ks = if code = 0 then v2.head 0 else (code, v2) := by unfold Dv.home; rw [hp]; simp only [hr, ↓reduceIte]
      have HFL := Lib.hid hfl; have HH := Lib.hid hh; have HF := Lib.hid hf
      clear hfl hh hf hd hp hr
      go_wp2_with fail
      refine HFL.out.mono ?_
      rintro e w5 ⟨rfl, hf5, hd5⟩
      have HF5 := Lib.hid (HF.out.trans hf5)
      by_cases hc : code = 0
      · subst hc
        have hwh := writeHead_calls w5 p l m n q (b + k + 1) v2 hd5 (by omega) hn 0
        have hh := HH.out
        simp only [↓reduceIte] at hh
        have HWH := Lib.hid hwh; have HH2 := Lib.hid hh
        clear hwh hh hf5 hd5 HFL HF HH
        go_wp2_with fail
        refine HWH.out.mono ?_
        rintro e w6 ⟨rfl, hf6, hd6⟩
        have HF6 := Lib.hid (HF5.out.trans hf6); have HD6 := Lib.hid (hd6.more (b' := b + n + 3) (by omega))
        clear hf6 hd6
        go_wp2_with fail
        go_ret
        exact ⟨ks, HK.out, by rw [HH2.out]; rfl, (HF1.out.mono (by simp)).trans HF6.out, by rw [HH2.out]; exact HD6.out⟩
      · have hh := HH.out
        simp only [hc, ↓reduceIte] at hh
        have HH2 := Lib.hid hh
        have HD5 := Lib.hid (hd5.more (b' := b + n + 3) (by omega))
        clear hh hf5 hd5 HFL HF HH
        go_wp2_with fail
        go_ret
        exact ⟨ks, HK.out, by rw [HH2.out]; rfl, (HF1.out.mono (by simp)).trans HF5.out, by rw [HH2.out]; exact HD5.out⟩
end Go.Proofs.Ytoifpbifipgpkaa
