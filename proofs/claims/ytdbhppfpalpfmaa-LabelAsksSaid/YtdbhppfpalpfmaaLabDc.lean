/-
  The document's own: Safe, Change.
-/
import Derived.Test.YtdbhppfpalpfmaaLabDb
import Derived.Test.YtdbhppfpalpfmaaLabH
import Derived.Lib.QuietBelow
import Derived.BigQuiet
namespace Go.Proofs.Ytdbhppfpalpfmaa
open Go.RowKit Go.MapKept
theorem less_snoc (l f p : List Int) (k : Nat) (hk : k < l.length) : subB (lessB (l.take (k + 1)) f) p = (subB (lessB (l.take k) f) p && (hasB f (l.getD k 0) || hasB p (l.getD k 0))) := by
  rw [lessB_snoc l f k hk]
  unfold hasB
  by_cases h : f.contains (l.getD k 0) = true
  · rw [if_pos h, h, List.append_nil, Bool.true_or, Bool.and_true]
  · rw [if_neg h, show f.contains (l.getD k 0) = false by simpa using h, Bool.false_or, Bool.eq_iff_iff, Bool.and_eq_true, subB_iff, subB_iff, List.contains_iff_mem]
    constructor
    · intro h; exact ⟨fun x hx => h x (List.mem_append.2 (.inl hx)), h _ (List.mem_append.2 (.inr (by simp)))⟩
    · rintro ⟨h1, h2⟩ x hx
      rcases List.mem_append.1 hx with hx | hx
      · exact h1 x hx
      · simp only [List.mem_cons, List.not_mem_nil, or_false] at hx; rw [hx]; exact h2
theorem less_fail (l f p : List Int) (k : Nat) (hk : k < l.length) (h1 : hasB f (l.getD k 0) = false) (h2 : hasB p (l.getD k 0) = false) : subB (lessB l f) p = false := by
  unfold hasB at h1 h2
  rw [← Bool.not_eq_true, subB_iff]
  intro hs
  have hm : l.getD k 0 ∈ l := by rw [List.getD_eq_getElem?_getD, List.getElem?_eq_getElem hk]; exact List.getElem_mem hk
  have : l.getD k 0 ∈ p := hs _ (by unfold lessB; rw [List.mem_filter]; exact ⟨hm, by rw [h1]; rfl⟩)
  rw [← List.contains_iff_mem, h2] at this
  cases this
theorem has_fr (w : World) (a : Option Addr) (c : Nat) (l : List Int) (x : Int) (h : RdI w a c l) :
    Calls Try.prog 48 #[.slice a l.length c, .int .i64 x] w fun e w' => e = .returned (.bool (hasB l x)) ∧ Fr [] w w' :=
  (has_calls w a c l x h).mono fun e w' ⟨he, hw⟩ => ⟨he, by rw [hw]; exact Fr.refl _ _⟩
set_option maxRecDepth 100000 in
set_option maxHeartbeats 2000000 in
theorem rsafe_calls (w : World) (a1 a2 ap am : Option Addr) (c1 c2 cp cm : Nat) (f t p m : List Int) (h1 : RdI w a1 c1 f) (h2 : RdI w a2 c2 t) (hp : RdI w ap cp p) (hm : RdI w am cm m) :
    Calls Try.prog 30 #[.slice a1 f.length c1, .slice a2 t.length c2, .agg #[.slice ap p.length cp, .slice am m.length cm]] w fun e w' => e = .returned (.bool (safeB f t p m)) ∧ Fr [] w w' := by
  have hb1 := h1.big
  have hb2 := h2.big
  have hF : Fr [] w (w.alloc (.cells #[.slice ap p.length cp, .slice am m.length cm] 35)) := (Fr.refl [] w).alloc _
  have HC : Hid (∀ w', Fr [] (w.alloc (.cells #[.slice ap p.length cp, .slice am m.length cm] 35)) w' → w'.cell? ⟨w.heap.size, 0, none⟩ = some (.slice ap p.length cp) ∧ w'.cell? ⟨w.heap.size, 1, none⟩ = some (.slice am m.length cm)) := Lib.hid (fun w' hf => by
    have hb := hf.keep (heap_alloc_last w (.cells #[.slice ap p.length cp, .slice am m.length cm] 35)) (by simp)
    exact ⟨by rw [box_cell hb]; rfl, by rw [box_cell hb]; rfl⟩)
  have HA1 := Lib.hid (fun w' (hf : Fr [] w w') k hk => (h1.keep hf).cellAt (k := k) hk)
  have HA2 := Lib.hid (fun w' (hf : Fr [] w w') k hk => (h2.keep hf).cellAt (k := k) hk)
  have HH1 := Lib.hid (fun x w' (hf : Fr [] w w') => has_fr w' a1 c1 f x (h1.keep hf))
  have HH2 := Lib.hid (fun x w' (hf : Fr [] w w') => has_fr w' a2 c2 t x (h2.keep hf))
  have HHp := Lib.hid (fun x w' (hf : Fr [] w w') => has_fr w' ap cp p x (hp.keep hf))
  have HHm := Lib.hid (fun x w' (hf : Fr [] w w') => has_fr w' am cm m x (hm.keep hf))
  have HS1 := Lib.hid (less_snoc t f p); have HS2 := Lib.hid (less_snoc f t m)
  have HE1 := Lib.hid (less_fail t f p); have HE2 := Lib.hid (less_fail f t m)
  have HT1 : Hid (subB (lessB t f) p = subB (lessB (t.take t.length) f) p) := Lib.hid (by rw [List.take_length])
  have HT2 : Hid (subB (lessB f t) m = subB (lessB (f.take f.length) t) m) := Lib.hid (by rw [List.take_length])
  have HV : Hid (safeB f t p m = (subB (lessB t f) p && subB (lessB f t) m)) := Lib.hid rfl
  have HF := Lib.hid hF
  clear h1 h2 hp hm hF
  obtain ⟨n1, hn1⟩ : ∃ n, f.length = n := ⟨_, rfl⟩
  obtain ⟨n2, hn2⟩ : ∃ n, t.length = n := ⟨_, rfl⟩
  obtain ⟨np, hnp⟩ : ∃ n, p.length = n := ⟨_, rfl⟩
  obtain ⟨nm, hnm⟩ : ∃ n, m.length = n := ⟨_, rfl⟩
  rw [hn1] at hb1 HA1 HH1 HS2 HE2 HT2 ⊢
  rw [hn2] at hb2 HA2 HH2 HS1 HE1 HT1 ⊢
  rw [hnp] at HHp HC HF ⊢
  rw [hnm] at HHm HC HF ⊢
  clear hn1 hn2 hnp hnm
  obtain ⟨W0, hW0⟩ : ∃ W0, w.alloc (.cells #[.slice ap np cp, .slice am nm cm] 35) = W0 := ⟨_, rfl⟩
  rw [hW0] at HC HF
  have HW0 := Lib.hid hW0
  clear hW0
  go_enter Try.func30, Try.ntmps30
  go_wp2_with fail
  rw [HW0.out]
  go_loopw [7] (fun v wr => ∃ k : Nat, k ≤ n2 ∧ v = .int .i64 k ∧ Hid (Fr [] W0 wr) ∧ Hid (subB (lessB (t.take k) f) p = true)) (fun v _ => n2 - (intOf v).toNat)
  case atStart => exact ⟨0, by omega, rfl, Lib.hid (Fr.refl _ _), Lib.hid (by simp [lessB, subB])⟩
  case round =>
    obtain ⟨k, hk, rfl, HFr, HK⟩ := hrel
    have HFW : Hid (Fr [] w wr) := Lib.hid (HF.out.trans HFr.out)
    obtain ⟨hc0, hc1⟩ := HC.out wr (HFr.out)
    by_cases hlt : k < n2
    · obtain ⟨b, off, rfl, hcell, hall⟩ := HA2.out wr HFW.out k hlt
      clear hall
      have hsn := HS1.out k hlt
      have hfa := HE1.out k hlt
      obtain ⟨x, hx⟩ : ∃ x, t.getD k 0 = x := ⟨_, rfl⟩
      rw [hx] at hcell hsn hfa
      have hu := HH1.out x
      have hv := HHp.out x
      obtain ⟨u, eu⟩ : ∃ u, hasB f x = u := ⟨_, rfl⟩
      obtain ⟨v, ev⟩ : ∃ v, hasB p x = v := ⟨_, rfl⟩
      rw [eu] at hu hsn hfa
      rw [ev] at hv hsn hfa
      have HU := Lib.hid hu; have HV2 := Lib.hid hv
      clear hx hu hv eu ev
      cases u with
      | true =>
        have HN : Hid (subB (lessB (t.take (k + 1)) f) p = true) := Lib.hid (by rw [hsn, HK.out]; rfl)
        clear hsn hfa
        have q1 := cell_regrown hcell; have q2 := cell_regrown hc0
        have ku := quiet_of_fr (Fr.refl [] wr) (fun w' hf => HU.out w' (HFW.out.trans hf))
        have kv := quiet_of_fr (Fr.refl [] wr) (fun w' hf => HV2.out w' (HFW.out.trans hf))
        clear hcell hc0 hc1
        go_wp2_with fail
        refine wp_region_quiet_below (by kernel_rfl) (by kernel_rfl) ?_
        repeat (go_big_quiet_step (with_reducible (first | exact ku _ _ | exact kv _ _)))
        refine wpQuiet_nil ?_
        intro _ hw'
        obtain ⟨⟨dq, osq⟩, hw''⟩ := hw'
        subst hw''
        have HZ := Lib.hid (fr_regrown wr dq osq)
        clear ku kv q1 q2
        go_wp2_with fail
        go_roundw
        case rel => exact ⟨k + 1, by omega, by go_num, Lib.hid (HFr.out.trans HZ.out), HN⟩
        case measure => simp [intOf]; omega
      | false =>
        cases v with
        | true =>
          have HN : Hid (subB (lessB (t.take (k + 1)) f) p = true) := Lib.hid (by rw [hsn, HK.out]; rfl)
          clear hsn hfa
          have q1 := cell_regrown hcell; have q2 := cell_regrown hc0
          have ku := quiet_of_fr (Fr.refl [] wr) (fun w' hf => HU.out w' (HFW.out.trans hf))
          have kv := quiet_of_fr (Fr.refl [] wr) (fun w' hf => HV2.out w' (HFW.out.trans hf))
          clear hcell hc0 hc1
          go_wp2_with fail
          refine wp_region_quiet_below (by kernel_rfl) (by kernel_rfl) ?_
          repeat (go_big_quiet_step (with_reducible (first | exact ku _ _ | exact kv _ _)))
          refine wpQuiet_nil ?_
          intro _ hw'
          obtain ⟨⟨dq, osq⟩, hw''⟩ := hw'
          subst hw''
          have HZ := Lib.hid (fr_regrown wr dq osq)
          clear ku kv q1 q2
          go_wp2_with fail
          go_roundw
          case rel => exact ⟨k + 1, by omega, by go_num, Lib.hid (HFr.out.trans HZ.out), HN⟩
          case measure => simp [intOf]; omega
        | false =>
          have HN := Lib.hid (hfa rfl rfl)
          clear hsn hfa
          have q1 := cell_regrown hcell; have q2 := cell_regrown hc0
          have ku := quiet_of_fr (Fr.refl [] wr) (fun w' hf => HU.out w' (HFW.out.trans hf))
          have kv := quiet_of_fr (Fr.refl [] wr) (fun w' hf => HV2.out w' (HFW.out.trans hf))
          clear hcell hc0 hc1
          go_wp2_with fail
          refine wp_region_quiet_below (by kernel_rfl) (by kernel_rfl) ?_
          repeat (go_big_quiet_step (with_reducible (first | exact ku _ _ | exact kv _ _)))
          refine wpQuiet_nil ?_
          intro _ hw'
          obtain ⟨⟨dq, osq⟩, hw''⟩ := hw'
          subst hw''
          have HZ := Lib.hid (fr_regrown wr dq osq)
          clear ku kv q1 q2
          go_wp2_with fail
          go_ret
          exact ⟨ret_bool (by rw [HV.out, HN.out]; simp), HFW.out.trans HZ.out⟩
    · obtain rfl : n2 = k := by omega
      have HT1' : Hid (subB (lessB t f) p = true) := Lib.hid (by rw [HT1.out]; exact HK.out)
      obtain ⟨W1, hW1⟩ : ∃ W1, W1 = wr := ⟨_, rfl⟩
      have HFr1 : Hid (Fr [] W0 W1) := by rw [hW1]; exact HFr
      have HFW1 : Hid (Fr [] w W1) := by rw [hW1]; exact HFW
      rw [← hW1]
      clear hW1 hc0 hc1 HFr HFW HK hlt
      go_wp2_with fail
      go_loopw [8] (fun v wr => ∃ k : Nat, k ≤ n1 ∧ v = .int .i64 k ∧ Hid (Fr [] W1 wr) ∧ Hid (subB (lessB (f.take k) t) m = true)) (fun v _ => n1 - (intOf v).toNat)
      case atStart => exact ⟨0, by omega, rfl, Lib.hid (Fr.refl _ _), Lib.hid (by simp [lessB, subB])⟩
      case round =>
        obtain ⟨k, hk, rfl, HFr, HK⟩ := hrel
        have HFW : Hid (Fr [] w wr) := Lib.hid (HFW1.out.trans HFr.out)
        obtain ⟨hc0, hc1⟩ := HC.out wr (HFr1.out.trans HFr.out)
        by_cases hlt : k < n1
        · obtain ⟨b, off, rfl, hcell, hall⟩ := HA1.out wr HFW.out k hlt
          clear hall
          have hsn := HS2.out k hlt
          have hfa := HE2.out k hlt
          obtain ⟨x, hx⟩ : ∃ x, f.getD k 0 = x := ⟨_, rfl⟩
          rw [hx] at hcell hsn hfa
          have hu := HH2.out x
          have hv := HHm.out x
          obtain ⟨u, eu⟩ : ∃ u, hasB t x = u := ⟨_, rfl⟩
          obtain ⟨v, ev⟩ : ∃ v, hasB m x = v := ⟨_, rfl⟩
          rw [eu] at hu hsn hfa
          rw [ev] at hv hsn hfa
          have HU := Lib.hid hu; have HV2 := Lib.hid hv
          clear hx hu hv eu ev
          cases u with
          | true =>
            have HN : Hid (subB (lessB (f.take (k + 1)) t) m = true) := Lib.hid (by rw [hsn, HK.out]; rfl)
            clear hsn hfa
            have q1 := cell_regrown hcell; have q2 := cell_regrown hc1
            have ku := quiet_of_fr (Fr.refl [] wr) (fun w' hf => HU.out w' (HFW.out.trans hf))
            have kv := quiet_of_fr (Fr.refl [] wr) (fun w' hf => HV2.out w' (HFW.out.trans hf))
            clear hcell hc0 hc1
            go_wp2_with fail
            refine wp_region_quiet_below (by kernel_rfl) (by kernel_rfl) ?_
            repeat (go_big_quiet_step (with_reducible (first | exact ku _ _ | exact kv _ _)))
            refine wpQuiet_nil ?_
            intro _ hw'
            obtain ⟨⟨dq, osq⟩, hw''⟩ := hw'
            subst hw''
            have HZ := Lib.hid (fr_regrown wr dq osq)
            clear ku kv q1 q2
            go_wp2_with fail
            go_roundw
            case rel => exact ⟨k + 1, by omega, by go_num, Lib.hid (HFr.out.trans HZ.out), HN⟩
            case measure => simp [intOf]; omega
          | false =>
            cases v with
            | true =>
              have HN : Hid (subB (lessB (f.take (k + 1)) t) m = true) := Lib.hid (by rw [hsn, HK.out]; rfl)
              clear hsn hfa
              have q1 := cell_regrown hcell; have q2 := cell_regrown hc1
              have ku := quiet_of_fr (Fr.refl [] wr) (fun w' hf => HU.out w' (HFW.out.trans hf))
              have kv := quiet_of_fr (Fr.refl [] wr) (fun w' hf => HV2.out w' (HFW.out.trans hf))
              clear hcell hc0 hc1
              go_wp2_with fail
              refine wp_region_quiet_below (by kernel_rfl) (by kernel_rfl) ?_
              repeat (go_big_quiet_step (with_reducible (first | exact ku _ _ | exact kv _ _)))
              refine wpQuiet_nil ?_
              intro _ hw'
              obtain ⟨⟨dq, osq⟩, hw''⟩ := hw'
              subst hw''
              have HZ := Lib.hid (fr_regrown wr dq osq)
              clear ku kv q1 q2
              go_wp2_with fail
              go_roundw
              case rel => exact ⟨k + 1, by omega, by go_num, Lib.hid (HFr.out.trans HZ.out), HN⟩
              case measure => simp [intOf]; omega
            | false =>
              have HN := Lib.hid (hfa rfl rfl)
              clear hsn hfa
              have q1 := cell_regrown hcell; have q2 := cell_regrown hc1
              have ku := quiet_of_fr (Fr.refl [] wr) (fun w' hf => HU.out w' (HFW.out.trans hf))
              have kv := quiet_of_fr (Fr.refl [] wr) (fun w' hf => HV2.out w' (HFW.out.trans hf))
              clear hcell hc0 hc1
              go_wp2_with fail
              refine wp_region_quiet_below (by kernel_rfl) (by kernel_rfl) ?_
              repeat (go_big_quiet_step (with_reducible (first | exact ku _ _ | exact kv _ _)))
              refine wpQuiet_nil ?_
              intro _ hw'
              obtain ⟨⟨dq, osq⟩, hw''⟩ := hw'
              subst hw''
              have HZ := Lib.hid (fr_regrown wr dq osq)
              clear ku kv q1 q2
              go_wp2_with fail
              go_ret
              exact ⟨ret_bool (by rw [HV.out, HT1'.out, HN.out]; simp), HFW.out.trans HZ.out⟩
        · obtain rfl : n1 = k := by omega
          go_wp2_with fail
          go_ret
          exact ⟨ret_bool (by rw [HV.out, HT1'.out, HT2.out, HK.out]; rfl), HFW.out⟩
set_option maxRecDepth 100000 in
set_option maxHeartbeats 2000000 in
theorem rchange_calls (w : World) (a1 a2 b1 b2 ap am : Option Addr) (c1 c2 d1 d2 cp cm : Nat) (s i t j p m : List Int) (h1 : RdI w a1 c1 s) (h2 : RdI w a2 c2 i) (h3 : RdI w b1 d1 t) (h4 : RdI w b2 d2 j) (hp : RdI w ap cp p) (hm : RdI w am cm m) :
    Calls Try.prog 32 #[.agg #[.slice a1 s.length c1, .slice a2 i.length c2], .agg #[.slice b1 t.length d1, .slice b2 j.length d2], .agg #[.slice ap p.length cp, .slice am m.length cm]] w fun e w' => e = .returned (.bool (changeB s i t j p m)) ∧ Fr [] w w' := by
  have hF : Fr [] w (((w.alloc (.cells #[.slice a1 s.length c1, .slice a2 i.length c2] 26)).alloc (.cells #[.slice b1 t.length d1, .slice b2 j.length d2] 26)).alloc (.cells #[.slice ap p.length cp, .slice am m.length cm] 35)) := (((Fr.refl [] w).alloc _).alloc _).alloc _
  have hs1 := rmay_calls _ b1 b2 d1 d2 t j (h3.keep hF) (h4.keep hF)
  have hs2 : ∀ w', Fr [] (((w.alloc (.cells #[.slice a1 s.length c1, .slice a2 i.length c2] 26)).alloc (.cells #[.slice b1 t.length d1, .slice b2 j.length d2] 26)).alloc (.cells #[.slice ap p.length cp, .slice am m.length cm] 35)) w' → Calls Try.prog 30 #[.slice a1 s.length c1, .slice b1 t.length d1, .agg #[.slice ap p.length cp, .slice am m.length cm]] w' _ :=
    fun w' hf => rsafe_calls w' a1 b1 ap am c1 d1 cp cm s t p m (h1.keep (hF.trans hf)) (h3.keep (hF.trans hf)) (hp.keep (hF.trans hf)) (hm.keep (hF.trans hf))
  have hs3 : ∀ w', Fr [] (((w.alloc (.cells #[.slice a1 s.length c1, .slice a2 i.length c2] 26)).alloc (.cells #[.slice b1 t.length d1, .slice b2 j.length d2] 26)).alloc (.cells #[.slice ap p.length cp, .slice am m.length cm] 35)) w' → Calls Try.prog 30 #[.slice a2 i.length c2, .slice b2 j.length d2, .agg #[.slice ap p.length cp, .slice am m.length cm]] w' _ :=
    fun w' hf => rsafe_calls w' a2 b2 ap am c2 d2 cp cm i j p m (h2.keep (hF.trans hf)) (h4.keep (hF.trans hf)) (hp.keep (hF.trans hf)) (hm.keep (hF.trans hf))
  have hc : ∀ w', Fr [] (((w.alloc (.cells #[.slice a1 s.length c1, .slice a2 i.length c2] 26)).alloc (.cells #[.slice b1 t.length d1, .slice b2 j.length d2] 26)).alloc (.cells #[.slice ap p.length cp, .slice am m.length cm] 35)) w' → ((w'.cell? ⟨w.heap.size, 0, none⟩ = some (.slice a1 s.length c1) ∧ w'.cell? ⟨w.heap.size, 1, none⟩ = some (.slice a2 i.length c2)) ∧ (w'.cell? ⟨w.heap.size + 1, 0, none⟩ = some (.slice b1 t.length d1) ∧ w'.cell? ⟨w.heap.size + 1, 1, none⟩ = some (.slice b2 j.length d2))) ∧ (w'.cell? ⟨w.heap.size + 1 + 1, 0, none⟩ = some (.slice ap p.length cp) ∧ w'.cell? ⟨w.heap.size + 1 + 1, 1, none⟩ = some (.slice am m.length cm)) := fun w' hf => by
    obtain ⟨hb1, hb2, hb3⟩ := three_boxes hf
    exact ⟨⟨⟨by rw [box_cell hb1]; rfl, by rw [box_cell hb1]; rfl⟩, by rw [box_cell hb2]; rfl, by rw [box_cell hb2]; rfl⟩, by rw [box_cell hb3]; rfl, by rw [box_cell hb3]; rfl⟩
  have HF := Lib.hid hF; have HS1 := Lib.hid hs1; have HS2 := Lib.hid hs2; have HS3 := Lib.hid hs3; have HC := Lib.hid hc
  have HV : Hid (changeB s i t j p m = ((setB t && setB j) && safeB s t p m && safeB i j p m)) := Lib.hid rfl
  clear hF hs1 hs2 hs3 hc h1 h2 h3 h4 hp hm
  generalize (setB t && setB j) = r1 at *
  generalize safeB s t p m = r2 at *
  generalize safeB i j p m = r3 at *
  generalize changeB s i t j p m = rr at *
  generalize s.length = n1 at *
  generalize i.length = n2 at *
  generalize t.length = n3 at *
  generalize j.length = n4 at *
  generalize p.length = n5 at *
  generalize m.length = n6 at *
  cases r1 with
  | true =>
    go_enter Try.func32, Try.ntmps32
    go_wp2_with fail
    refine HS1.out.mono ?_
    rintro e w1 ⟨rfl, hf⟩
    obtain ⟨⟨⟨x1, x2⟩, x3, x4⟩, x5, x6⟩ := HC.out w1 hf
    have HX := Lib.hid hf
    clear hf HS1
    cases r2 with
    | true =>
      go_wp2_with fail
      refine (HS2.out w1 HX.out).mono ?_
      rintro e w2 ⟨rfl, hf⟩
      have HX2 := Lib.hid (HX.out.trans hf)
      clear hf x1 x2 x3 x4 x5 x6 HX
      obtain ⟨⟨⟨x1, x2⟩, x3, x4⟩, x5, x6⟩ := HC.out w2 HX2.out
      go_wp2_with fail
      refine (HS3.out w2 HX2.out).mono ?_
      rintro e w3 ⟨rfl, hf⟩
      have HX3 := Lib.hid ((HF.out.trans HX2.out).trans hf)
      clear hf
      go_wp2_with fail
      go_ret
      exact ⟨ret_bool (by rw [HV.out]; simp), HX3.out⟩
    | false =>
      go_wp2_with fail
      refine (HS2.out w1 HX.out).mono ?_
      rintro e w2 ⟨rfl, hf⟩
      have HX2 := Lib.hid ((HF.out.trans HX.out).trans hf)
      clear hf
      go_wp2_with fail
      go_ret
      exact ⟨ret_bool (by rw [HV.out]; simp), HX2.out⟩
  | false =>
    go_enter Try.func32, Try.ntmps32
    go_wp2_with fail
    refine HS1.out.mono ?_
    rintro e w1 ⟨rfl, hf⟩
    have HX := Lib.hid (HF.out.trans hf)
    clear hf HS1 HS2 HS3 HC
    go_wp2_with fail
    go_ret
    exact ⟨ret_bool (by rw [HV.out]; simp), HX.out⟩
end Go.Proofs.Ytdbhppfpalpfmaa
