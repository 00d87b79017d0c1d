/-
  The document's own: whether two lists are one; what of a list is not in another.
-/
import Derived.Test.YtdbhppfpalpfmaaLabRO
namespace Go.Proofs.Ytdbhppfpalpfmaa
open Go.RowKit Go.MapKept
def eqB (a b : List Int) : Bool := decide (a = b)
theorem eqB_len {a b : List Int} (h : ¬ a.length = b.length) : eqB a b = false := decide_eq_false (fun e => h (by rw [e]))
theorem eqB_all {a b : List Int} (hl : a.length = b.length) (h : a.take a.length = b.take a.length) : eqB a b = true := by
  rw [List.take_length, hl, List.take_length] at h
  exact decide_eq_true h
theorem eqB_at {a b : List Int} {k : Nat} (h : a.getD k 0 ≠ b.getD k 0) : eqB a b = false := decide_eq_false (fun e => h (by rw [e]))
set_option maxRecDepth 100000 in
set_option maxHeartbeats 1000000 in
theorem sameset_calls (w : World) (a1 a2 : Option Addr) (c1 c2 : Nat) (a b : List Int) (h1 : RdI w a1 c1 a) (h2 : RdI w a2 c2 b) :
    Calls Try.prog 13 #[.slice a1 a.length c1, .slice a2 b.length c2] w fun e w' => e = .returned (.bool (eqB a b)) ∧ Fr [] w w' := by
  have hb := h1.big
  have hb2 := h2.big
  have hat1 := fun w' (hf : Fr [] w w') k hk => (h1.keep hf).cellAt (k := k) hk
  have hat2 := fun w' (hf : Fr [] w w') k hk => (h2.keep hf).cellAt (k := k) hk
  have HAT1 := Lib.hid hat1; have HAT2 := Lib.hid hat2
  have HL := Lib.hid (@eqB_len a b); have HA := Lib.hid (@eqB_all a b); have HD := Lib.hid (fun k => @eqB_at a b k)
  have HT1 := Lib.hid (take_snoc a); have HT2 := Lib.hid (take_snoc b)
  clear h1 h2 hat1 hat2
  obtain ⟨n, hn⟩ : ∃ n, a.length = n := ⟨_, rfl⟩
  obtain ⟨m, hm⟩ : ∃ m, b.length = m := ⟨_, rfl⟩
  rw [hn] at hb HAT1 HL HA HT1 ⊢
  rw [hm] at hb2 HAT2 HL HA HT2 ⊢
  clear hn hm
  by_cases hnm : n = m
  · subst hnm
    go_enter Try.func13, Try.ntmps13
    go_wp2
    go_loopw [5] (fun v5 wr => ∃ k : Nat, k ≤ n ∧ v5 = .int .i64 k ∧ Hid (Fr [] w wr) ∧ Hid (a.take k = b.take k)) (fun v5 _ => n - (intOf v5).toNat)
    case atStart => exact ⟨0, by omega, rfl, Lib.hid (Fr.refl _ _), Lib.hid (by simp)⟩
    case round =>
      obtain ⟨k, hk, rfl, HF, HK⟩ := hrel
      by_cases hlt : k < n
      · obtain ⟨b1, off, rfl, hcell, hall⟩ := HAT1.out wr HF.out k hlt
        clear hall
        obtain ⟨b', off', rfl, hcell', hall⟩ := HAT2.out wr HF.out k hlt
        clear hall
        have hd := HD.out k
        have ht1 := HT1.out k hlt
        have ht2 := HT2.out k hlt
        obtain ⟨x, hx⟩ : ∃ x, a.getD k 0 = x := ⟨_, rfl⟩
        obtain ⟨y, hy⟩ : ∃ y, b.getD k 0 = y := ⟨_, rfl⟩
        rw [hx] at hcell hd ht1
        rw [hy] at hcell' hd ht2
        by_cases hxy : x = y
        · have HN : Hid (a.take (k + 1) = b.take (k + 1)) := Lib.hid (by rw [ht1, ht2, HK.out, hxy])
          subst hxy
          clear hx hy hd ht1 ht2
          go_wp2
          go_quiet (fail)
          have HF' := Lib.hid (HF.out.drewN nq)
          go_wp2
          go_roundw
          case rel => exact ⟨k + 1, by omega, by go_num, HF', HN⟩
          case measure => simp [intOf]; omega
        · have HN := Lib.hid (hd hxy)
          have dxy : (x == y) = false := by simpa using hxy
          have dxy' : (x != y) = true := by simpa using hxy
          clear hx hy hd ht1 ht2
          go_wp2
          go_quiet (fail)
          have HF' := Lib.hid (HF.out.drewN nq)
          go_wp2
          go_ret
          exact ⟨ret_bool HN.out.symm, HF'.out⟩
      · obtain rfl : k = n := by omega
        go_wp2
        go_ret
        exact ⟨ret_bool (HA.out trivial HK.out).symm, HF.out⟩
  · have HE := Lib.hid (HL.out hnm)
    go_enter Try.func13, Try.ntmps13
    go_wp2
    go_ret
    exact ⟨ret_bool HE.out.symm, Fr.refl _ _⟩
set_option maxRecDepth 100000 in
set_option maxHeartbeats 2000000 in
theorem rwithout_calls (w : World) (a1 a2 : Option Addr) (c1 c2 : Nat) (l d : List Int) (h1 : RdI w a1 c1 l) (h2 : RdI w a2 c2 d) :
    Calls Try.prog 61 #[.slice a1 l.length c1, .slice a2 d.length c2] w fun e w' => ∃ ad cap, e = .returned (.slice ad (lessB l d).length cap) ∧ RdI w' ad cap (lessB l d) ∧ Fr [] w w' := by
  obtain ⟨i0, hi, hz0, hz1, hz2⟩ := info_parts (show (Try.prog.info? 3).map (fun i => (i.zero, i.size, i.bytes)) = some (some (.int .i64 0), 1, 8) by kernel_rfl)
  have hb := h1.big
  have hat1 := fun w' (hf : Fr [] w w') k hk => (h1.keep hf).cellAt (k := k) hk
  have hhas := fun w' (hf : Fr [] w w') t => has_calls w' a2 c2 d t (h2.keep hf)
  have hsn := lessB_snoc l d
  have hln := lessB_len l d
  have hend : lessB l d = lessB (l.take l.length) d := by rw [List.take_length]
  have HI := Lib.hid hi; have HZ0 := Lib.hid hz0; have HZ1 := Lib.hid hz1; have HZ2 := Lib.hid hz2
  have HAT := Lib.hid hat1; have HH := Lib.hid hhas; have HSN := Lib.hid hsn; have HLN := Lib.hid hln; have HE := Lib.hid hend
  clear hi hz0 hz1 hz2 h1 h2 hat1 hhas hsn hln hend
  obtain ⟨n, hn⟩ : ∃ n, l.length = n := ⟨_, rfl⟩
  obtain ⟨n2, hn2⟩ : ∃ n, d.length = n := ⟨_, rfl⟩
  rw [hn] at hb HAT HSN HE ⊢
  rw [hn2] at HH ⊢
  clear hn hn2
  go_enter Try.func61, Try.ntmps61
  go_wp2_with fail
  go_loopw [5, 6] (fun v5 v6 wr => ∃ (k : Nat) (v : Value), k ≤ n ∧ v6 = .int .i64 k ∧ v = v5 ∧ wr.ownsRow w.heap.size 3 1 v (lessB (l.take k) d).length ((lessB (l.take k) d).map (Value.int .i64)) ∧ Fr [] w wr) (fun _ v6 _ => n - (intOf v6).toNat)
  case atStart => exact ⟨0, _, by omega, rfl, rfl, by simpa [lessB] using World.ownsRow_nil _ _ _ _, Fr.refl _ _⟩
  case round =>
    obtain ⟨k, v5, hk, rfl, rfl, hown, hfr⟩ := hrel
    have hsz := hfr.size
    by_cases hlt : k < n
    · obtain ⟨b, off, rfl, hcell, hall⟩ := HAT.out wr hfr k hlt
      clear hall
      have hsn := HSN.out k hlt
      have hlen := HLN.out k
      obtain ⟨x, hx⟩ : ∃ x, l.getD k 0 = x := ⟨_, rfl⟩
      rw [hx] at hcell hsn
      have hh := HH.out wr hfr x
      obtain ⟨u, hu⟩ : ∃ u, lessB (l.take k) d = u := ⟨_, rfl⟩
      rw [hu] at hown hsn hlen
      obtain ⟨nu, hnu⟩ : ∃ nu, u.length = nu := ⟨_, rfl⟩
      rw [hnu] at hown hlen
      by_cases hc : d.contains x = true
      · have hc' : hasB d x = true := hc
        rw [hc'] at hh
        rw [if_pos hc, List.append_nil] at hsn
        have HS := Lib.hid hsn; have HO := Lib.hid hown; have HFR := Lib.hid hfr; have HNU := Lib.hid hnu
        clear hx hu hnu hsn hown hfr hc hc' hlen
        go_wp2_with fail
        refine hh.mono ?_
        rintro e w' ⟨rfl, rfl⟩
        go_wp2_with fail
        go_roundw
        case rel => exact ⟨k + 1, _, by omega, by go_num, rfl, by rw [HS.out, HNU.out]; exact HO.out, HFR.out⟩
        case measure => simp [intOf]; omega
      · have hc' : hasB d x = false := by unfold hasB; simpa using hc
        rw [hc'] at hh
        rw [if_neg hc] at hsn
        have HS := Lib.hid hsn; have HOW := Lib.hid hown; have HFR := Lib.hid hfr; have HNU := Lib.hid hnu
        clear hx hu hnu hsn hown hfr hc hc'
        go_wp2_with fail
        refine hh.mono ?_
        rintro e w' ⟨rfl, rfl⟩
        go_wp2_with (first
          | (at_builtin; refine wpList_append_own _ rfl _ _ 22 rfl w.heap.size 3 i0 (.int .i64 0) 1 8 Try.underlying22 HI.out HZ0.out HZ1.out HZ2.out rfl (by decide) _ _ _ rfl (HOW.out.alloc _) ⟨wr.heap.size, 0, none⟩ 1 1 [.int .i64 x] rfl rfl (cell_one_new _ _ _) (by simp [Value.oneCell']) (by unfold maxLen; omega) (by omega) (by simp; omega) ?_)
          | fail)
        intro v' w4 hown' hgrow _
        have HFA := Lib.hid ((HFR.out.alloc (.cells #[.int .i64 x] 3)).grew (HOW.out.alloc _) hgrow (Nat.le_refl _))
        have HOA := Lib.hid hown'
        clear hown' hgrow
        go_wp2_with fail
        go_roundw
        case rel => exact ⟨k + 1, _, by omega, by go_num, rfl, by rw [HS.out, List.length_append, HNU.out]; simpa using HOA.out, HFA.out⟩
        case measure => simp [intOf]; omega
    · obtain rfl : n = k := by omega
      rw [← HE.out] at hown
      have hlen := HLN.out n
      rw [← HE.out] at hlen
      obtain ⟨ad, cap, rfl, hr, _⟩ := own_rdI2 hown (by omega)
      have HR := Lib.hid hr; have HFR := Lib.hid hfr
      clear hown hr hfr HAT HH HSN HLN
      go_wp2_with fail
      go_ret
      exact ⟨ad, cap, rfl, HR.out, HFR.out⟩
end Go.Proofs.Ytdbhppfpalpfmaa
