/-
  The document's own sets: Set, Has, Sub, SameSet.
-/
import Derived.Test.YtdbhppfpalpfmaaLabC
import Derived.Test.YtdbhppfpalpfmaaLabOrd
import Derived.Laws.AppendOwnNone
import Derived.IntWalk
namespace Go.Proofs.Ytdbhppfpalpfmaa
open Go.RowKit Go.MapKept
/-- The cell at a place of a slice. -/
theorem RdI.cellAt {w : World} {ad : Option Addr} {cap : Nat} {zs : List Int} (h : RdI w ad cap zs) {k : Nat} (hk : k < zs.length) : ∃ b off, ad = some ⟨b, off, none⟩ ∧ w.cell? ⟨b, off + k, none⟩ = some (.int .i64 (zs.getD k 0)) ∧ ∀ j, j < zs.length → w.cell? ⟨b, off + j, none⟩ = some (.int .i64 (zs.getD j 0)) := by
  cases ad with
  | none => have := h.nil rfl; omega
  | some a => obtain ⟨b, off, rfl, hc⟩ := h.at_ a rfl (by omega); exact ⟨b, off, rfl, hc k hk, hc⟩
theorem take_snoc (l : List Int) (k : Nat) (hk : k < l.length) : l.take (k + 1) = l.take k ++ [l.getD k 0] := by
  rw [List.take_succ_eq_append_getElem hk, List.getD_eq_getElem?_getD, List.getElem?_eq_getElem hk]; rfl
theorem contains_snoc (l : List Int) (k : Nat) (hk : k < l.length) (t : Int) : (l.take (k + 1)).contains t = ((l.take k).contains t || (l.getD k 0 == t)) := by
  rw [take_snoc l k hk, List.contains_append]
  congr 1
  simp only [List.contains_cons, List.contains_nil, Bool.or_false]
  rw [Bool.eq_iff_iff]; simp only [beq_iff_eq]; exact eq_comm
theorem contains_at (l : List Int) (k : Nat) (hk : k < l.length) (t : Int) (h : (l.getD k 0 == t) = true) : l.contains t = true := by
  rw [List.contains_iff_mem]
  have e : l.getD k 0 = t := by simpa using h
  rw [← e, List.getD_eq_getElem?_getD, List.getElem?_eq_getElem hk]
  exact List.getElem_mem hk
def hasB (l : List Int) (t : Int) : Bool := l.contains t
set_option maxRecDepth 100000 in
set_option maxHeartbeats 1000000 in
theorem has_calls (w : World) (ad : Option Addr) (cap : Nat) (zs : List Int) (t : Int) (h : RdI w ad cap zs) :
    Calls Try.prog 48 #[.slice ad zs.length cap, .int .i64 t] w fun e w' => e = .returned (.bool (hasB zs t)) ∧ w = w' := by
  have hb := h.big
  have hat := fun k hk => h.cellAt (k := k) hk
  have hsn := contains_snoc zs
  have hca := contains_at zs
  have hend : hasB zs t = (zs.take zs.length).contains t := by rw [List.take_length]; rfl
  have HAT := Lib.hid hat; have HSN := Lib.hid hsn; have HCA := Lib.hid hca; have HE := Lib.hid hend
  clear h hat hsn hca hend
  obtain ⟨n, hn⟩ : ∃ n, zs.length = n := ⟨_, rfl⟩
  rw [hn] at hb HAT HSN HCA HE ⊢
  clear hn
  go_enter Try.func48, Try.ntmps48
  go_wp2
  go_loop [5] (fun v5 => ∃ k : Nat, k ≤ n ∧ v5 = .int .i64 k ∧ Hid ((zs.take k).contains t = false)) (fun v5 => n - (intOf v5).toNat)
  case atStart => exact ⟨0, by omega, rfl, Lib.hid (by simp)⟩
  case round =>
    obtain ⟨k, hk, rfl, HK⟩ := hrel
    by_cases hlt : k < n
    · obtain ⟨b, off, rfl, hcell, hall⟩ := HAT.out k hlt
      clear hall
      have hsn := HSN.out k hlt t
      have hca := HCA.out k hlt t
      obtain ⟨x, hx⟩ : ∃ x, zs.getD k 0 = x := ⟨_, rfl⟩
      rw [hx] at hcell hsn hca
      have HS := Lib.hid hsn; have HC := Lib.hid hca
      clear hx hsn hca
      by_cases hxt : x = t
      · have HZ : Hid (hasB zs t = true) := Lib.hid (HC.out (by simpa using hxt))
        subst hxt
        go_wp2
        go_ret
        exact ⟨ret_bool HZ.out.symm, rfl⟩
      · have hxt' : (x == t) = false := by simpa using hxt
        have HN : Hid ((zs.take (k + 1)).contains t = false) := Lib.hid (by rw [HS.out, HK.out, hxt']; rfl)
        clear hxt
        go_wp2
        go_round
        case rel => exact ⟨k + 1, by omega, by go_num, HN⟩
        case measure => simp [intOf]; omega
    · obtain rfl : k = n := by omega
      go_wp2
      go_ret
      exact ⟨ret_bool (by rw [HE.out]; exact HK.out.symm), rfl⟩
theorem sub_snoc (a b : List Int) (k : Nat) (hk : k < a.length) : subB (a.take (k + 1)) b = (subB (a.take k) b && hasB b (a.getD k 0)) := by
  unfold hasB
  rw [take_snoc a k hk, Bool.eq_iff_iff, Bool.and_eq_true, subB_iff, subB_iff, List.contains_iff_mem]
  constructor
  · intro h; exact ⟨fun x hx => h x (List.mem_append.2 (.inl hx)), h _ (List.mem_append.2 (.inr (by simp)))⟩
  · rintro ⟨h1, h2⟩ x hx
    rcases List.mem_append.1 hx with hx | hx
    · exact h1 x hx
    · simp at hx; subst hx; exact h2
theorem sub_fail (a b : List Int) (k : Nat) (hk : k < a.length) (h : hasB b (a.getD k 0) = false) : subB a b = false := by
  unfold hasB at h
  rw [← Bool.not_eq_true, subB_iff]
  intro hs
  have : a.getD k 0 ∈ b := hs _ (by rw [List.getD_eq_getElem?_getD, List.getElem?_eq_getElem hk]; exact List.getElem_mem hk)
  rw [← List.contains_iff_mem, h] at this
  cases this
set_option maxRecDepth 100000 in
set_option maxHeartbeats 1000000 in
theorem rsub_calls (w : World) (a1 a2 : Option Addr) (c1 c2 : Nat) (a b : List Int) (h1 : RdI w a1 c1 a) (h2 : RdI w a2 c2 b) :
    Calls Try.prog 21 #[.slice a1 a.length c1, .slice a2 b.length c2] w fun e w' => e = .returned (.bool (subB a b)) ∧ w = w' := by
  have hb := h1.big
  have hat := fun k hk => h1.cellAt (k := k) hk
  have hsn := sub_snoc a b
  have hfa := sub_fail a b
  have hhas := fun t => has_calls w a2 c2 b t h2
  have hend : subB a b = subB (a.take a.length) b := by rw [List.take_length]
  have HAT := Lib.hid hat; have HSN := Lib.hid hsn; have HFA := Lib.hid hfa; have HE := Lib.hid hend; have HH := Lib.hid hhas
  clear h1 h2 hat hsn hfa hend hhas
  obtain ⟨n, hn⟩ : ∃ n, a.length = n := ⟨_, rfl⟩
  obtain ⟨n2, hn2⟩ : ∃ n, b.length = n := ⟨_, rfl⟩
  rw [hn] at hb HAT HSN HFA HE ⊢
  rw [hn2] at HH ⊢
  clear hn hn2
  go_enter Try.func21, Try.ntmps21
  go_wp2
  go_loop [5] (fun v5 => ∃ k : Nat, k ≤ n ∧ v5 = .int .i64 k ∧ Hid (subB (a.take k) b = true)) (fun v5 => n - (intOf v5).toNat)
  case atStart => exact ⟨0, by omega, rfl, Lib.hid (by rw [List.take_zero]; exact subB_iff.2 (by simp))⟩
  case round =>
    obtain ⟨k, hk, rfl, HK⟩ := hrel
    by_cases hlt : k < n
    · obtain ⟨b0, off, rfl, hcell, hall⟩ := HAT.out k hlt
      clear hall
      have hsn := HSN.out k hlt
      have hfa := HFA.out k hlt
      obtain ⟨x, hx⟩ : ∃ x, a.getD k 0 = x := ⟨_, rfl⟩
      rw [hx] at hcell hsn hfa
      have hhas := HH.out x
      clear hx
      by_cases hxt : hasB b x = true
      · rw [hxt] at hhas hsn
        have HN : Hid (subB (a.take (k + 1)) b = true) := Lib.hid (by rw [hsn, HK.out]; rfl)
        clear hsn hfa hxt
        go_wp2_with fail
        refine hhas.mono ?_
        rintro e w' ⟨rfl, rfl⟩
        go_wp2_with fail
        go_round
        case rel => exact ⟨k + 1, by omega, by go_num, HN⟩
        case measure => simp [intOf]; omega
      · have hxt' : hasB b x = false := by simpa using hxt
        rw [hxt'] at hhas
        have HF := Lib.hid (hfa hxt')
        clear hsn hfa hxt hxt'
        go_wp2_with fail
        refine hhas.mono ?_
        rintro e w' ⟨rfl, rfl⟩
        go_wp2_with fail
        go_ret
        exact ⟨ret_bool HF.out.symm, rfl⟩
    · obtain rfl : k = n := by omega
      go_wp2
      go_ret
      exact ⟨ret_bool (by rw [HE.out]; exact HK.out.symm), rfl⟩
/-! ### The document's Set -/
def prv (zs : List Int) : Nat → Int
  | 0 => 0
  | k + 1 => zs.getD k 0
set_option maxRecDepth 100000 in
set_option maxHeartbeats 2000000 in
theorem rset_calls (w : World) (ad : Option Addr) (cap : Nat) (zs : List Int) (h : RdI w ad cap zs) :
    Calls Try.prog 17 #[.slice ad zs.length cap] w fun e w' => e = .returned (.bool (setB zs)) ∧ ∃ q, w' = w.drewN q := by
  have hb := h.big
  have hat := fun w' (hf : Fr [] w w') k hk => (h.keep hf).cellAt (k := k) hk
  have hset : setB zs = (decide (zs.length ≤ 16) && upB 0 zs) := rfl
  have hdr := upB_drop zs
  have hdr0 : upB 0 zs = upB 0 (zs.drop 0) := by rw [List.drop_zero]
  have hend : ∀ p, upB p (zs.drop zs.length) = true := fun p => by rw [List.drop_length]; rfl
  have HAT := Lib.hid hat; have HS := Lib.hid hset; have HD := Lib.hid hdr; have HD0 := Lib.hid hdr0; have HE := Lib.hid hend
  clear h hat hset hdr hdr0 hend
  obtain ⟨n, hn⟩ : ∃ n, zs.length = n := ⟨_, rfl⟩
  rw [hn] at hb HAT HS HD HE ⊢
  clear hn
  go_enter Try.func17, Try.ntmps17
  go_wp2
  go_loopw [3] (fun v3 wr => ∃ k q : Nat, k ≤ n ∧ v3 = .int .i64 k ∧ Hid (wr = w.drewN q) ∧ Hid (upB 0 zs = upB (prv zs k) (zs.drop k)) ∧ Hid (0 ≤ prv zs k)) (fun v3 _ => n - (intOf v3).toNat)
  case atStart => exact ⟨0, 0, by omega, rfl, Lib.hid rfl, HD0, Lib.hid (by simp [prv])⟩
  case round =>
    obtain ⟨k, q, hk, rfl, HW, HU, HP⟩ := hrel
    by_cases hlt : k < n
    · have hfr : Fr [] w wr := by rw [HW.out]; exact (Fr.refl [] w).drewN q
      obtain ⟨b, off, rfl, hcell, hall⟩ := HAT.out wr hfr k hlt
      have hd := HD.out (prv zs k) k hlt
      clear hfr
      by_cases hk0 : k = 0
      · subst hk0
        clear hall
        obtain ⟨x, hx⟩ : ∃ x, zs.getD 0 0 = x := ⟨_, rfl⟩
        have hpr : prv zs (0 + 1) = x := hx
        have hpz : prv zs 0 = 0 := rfl
        rw [hx] at hcell hd
        rw [hpz] at hd
        have HH := Lib.hid hd; have HPR := Lib.hid hpr; have HPZ := Lib.hid hpz
        clear hx hd hpr hpz
        simp only [Nat.add_zero] at hcell
        by_cases c1 : x < 1
        · have d1 : decide (x < 1) = true := by simpa using c1
          have HF : Hid (upB 0 zs = false) := Lib.hid (by rw [HU.out, HPZ.out, HH.out]; simp; intro h; omega)
          go_wp2
          go_quiet (fail)
          go_wp2
          go_ret
          exact ⟨ret_bool (by rw [HS.out, HF.out]; simp), q + nq, by rw [HW.out, World.drewN_drewN]⟩
        · have d1 : decide (x < 1) = false := by simpa using c1
          by_cases c2 : 2147483647 < x
          · have d2 : decide (2147483647 < x) = true := by simpa using c2
            have HF : Hid (upB 0 zs = false) := Lib.hid (by rw [HU.out, HPZ.out, HH.out]; simp; intro h h'; omega)
            go_wp2
            go_quiet (fail)
            go_wp2
            go_ret
            exact ⟨ret_bool (by rw [HS.out, HF.out]; simp), q + nq, by rw [HW.out, World.drewN_drewN]⟩
          · have d2 : decide (2147483647 < x) = false := by simpa using c2
            have HG : Hid ((decide (0 < x) && decide (x ≤ 2147483647)) = true) := Lib.hid (by simp; omega)
            go_wp2
            go_quiet (fail)
            go_wp2
            go_roundw
            case rel => exact ⟨0 + 1, q + nq, by omega, by go_num, Lib.hid (by rw [HW.out, World.drewN_drewN]), Lib.hid (by rw [HU.out, HPZ.out, HH.out, HG.out, Bool.true_and, HPR.out]), Lib.hid (by rw [HPR.out]; omega)⟩
            case measure => simp [intOf]; omega
      · obtain ⟨k, rfl⟩ : ∃ j, k = j + 1 := ⟨k - 1, by omega⟩
        have hprev := hall k (by omega)
        clear hall hk0
        obtain ⟨x, hx⟩ : ∃ x, zs.getD (k + 1) 0 = x := ⟨_, rfl⟩
        have hpr : prv zs (k + 1 + 1) = x := hx
        have hpz : prv zs (k + 1) = zs.getD k 0 := rfl
        have hp0 := HP.out
        rw [hpz] at hp0
        rw [hpz, hx] at hd
        rw [hx] at hcell
        obtain ⟨y, hy⟩ : ∃ y, zs.getD k 0 = y := ⟨_, rfl⟩
        rw [hy] at hprev hd hpz hp0
        have HH := Lib.hid hd; have HPR := Lib.hid hpr; have HPZ := Lib.hid hpz
        clear hx hd hpr hpz hy
        have hwr : IntKind.i64.wrap (((k + 1 : Nat) : Int) - 1) = (k : Int) := by
          rw [Int.natCast_add, Int.natCast_one, Int.add_sub_cancel]; exact IntWalk.i64_in _ (by omega)
        have hpos : decide ((0 : Int) < ((k + 1 : Nat) : Int)) = true := by simp
        by_cases c1 : x < 1
        · have d1 : decide (x < 1) = true := by simpa using c1
          have HF : Hid (upB 0 zs = false) := Lib.hid (by rw [HU.out, HPZ.out, HH.out]; simp; intro h; omega)
          clear hwr
          go_wp2
          go_quiet (fail)
          go_wp2
          go_ret
          exact ⟨ret_bool (by rw [HS.out, HF.out]; simp), q + nq, by rw [HW.out, World.drewN_drewN]⟩
        · have d1 : decide (x < 1) = false := by simpa using c1
          by_cases c2 : 2147483647 < x
          · have d2 : decide (2147483647 < x) = true := by simpa using c2
            have HF : Hid (upB 0 zs = false) := Lib.hid (by rw [HU.out, HPZ.out, HH.out]; simp; intro h h'; omega)
            clear hwr
            go_wp2
            go_quiet (fail)
            go_wp2
            go_ret
            exact ⟨ret_bool (by rw [HS.out, HF.out]; simp), q + nq, by rw [HW.out, World.drewN_drewN]⟩
          · have d2 : decide (2147483647 < x) = false := by simpa using c2
            by_cases c3 : x ≤ y
            · have d3 : decide (x ≤ y) = true := by simpa using c3
              have HF : Hid (upB 0 zs = false) := Lib.hid (by rw [HU.out, HPZ.out, HH.out]; simp; intro h; omega)
              go_wp2
              go_quiet (fail)
              go_wp2
              go_ret
              exact ⟨ret_bool (by rw [HS.out, HF.out]; simp), q + nq, by rw [HW.out, World.drewN_drewN]⟩
            · have d3 : decide (x ≤ y) = false := by simpa using c3
              have HG : Hid ((decide (y < x) && decide (x ≤ 2147483647)) = true) := Lib.hid (by simp; omega)
              go_wp2
              go_quiet (fail)
              go_wp2
              go_roundw
              case rel => exact ⟨k + 1 + 1, q + nq, by omega, by go_num, Lib.hid (by rw [HW.out, World.drewN_drewN]), Lib.hid (by rw [HU.out, HPZ.out, HH.out, HG.out, Bool.true_and, HPR.out]), Lib.hid (by rw [HPR.out]; omega)⟩
              case measure => simp [intOf]; omega
    · obtain rfl : k = n := by omega
      go_wp2
      go_ret
      exact ⟨ret_bool (by rw [HS.out, HU.out, HE.out, Bool.and_true]; simp; omega), q, HW.out⟩
end Go.Proofs.Ytdbhppfpalpfmaa
