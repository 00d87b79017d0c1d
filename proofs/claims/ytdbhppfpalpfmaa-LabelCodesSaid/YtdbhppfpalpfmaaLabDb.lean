/-
  The document's own: May, Same, Flows, Within, SameCaps.
-/
import Derived.Test.YtdbhppfpalpfmaaLabDa
namespace Go.Proofs.Ytdbhppfpalpfmaa
open Go.RowKit Go.MapKept
theorem rsub_fr (w : World) (a1 a2 : Option Addr) (c1 c2 : Nat) (a b : List Int) (h1 : RdI w a1 c1 a) (h2 : RdI w a2 c2 b) :
    Calls Try.prog 21 #[.slice a1 a.length c1, .slice a2 b.length c2] w fun e w' => e = .returned (.bool (subB a b)) ∧ Fr [] w w' :=
  (rsub_calls w a1 a2 c1 c2 a b h1 h2).mono fun e w' ⟨he, hw⟩ => ⟨he, by rw [hw]; exact Fr.refl _ _⟩
theorem rset_fr (w : World) (a : Option Addr) (c : Nat) (l : List Int) (h : RdI w a c l) :
    Calls Try.prog 17 #[.slice a l.length c] w fun e w' => e = .returned (.bool (setB l)) ∧ Fr [] w w' := fr_draw (rset_calls w a c l h)
set_option maxRecDepth 100000 in
set_option maxHeartbeats 1000000 in
theorem rmay_calls (w : World) (a1 a2 : Option Addr) (c1 c2 : Nat) (s i : List Int) (h1 : RdI w a1 c1 s) (h2 : RdI w a2 c2 i) :
    Calls Try.prog 22 #[.agg #[.slice a1 s.length c1, .slice a2 i.length c2]] w fun e w' => e = .returned (.bool (setB s && setB i)) ∧ Fr [] w w' := by
  have hF : Fr [] w (w.alloc (.cells #[.slice a1 s.length c1, .slice a2 i.length c2] 26)) := (Fr.refl [] w).alloc _
  have hs1 := rset_fr _ a1 c1 s (h1.keep hF)
  have hs2 : ∀ w', Fr [] (w.alloc (.cells #[.slice a1 s.length c1, .slice a2 i.length c2] 26)) w' → Calls Try.prog 17 #[.slice a2 i.length c2] w' _ :=
    fun w' hf => rset_fr w' a2 c2 i (h2.keep (hF.trans hf))
  have hc : ∀ w', Fr [] (w.alloc (.cells #[.slice a1 s.length c1, .slice a2 i.length c2] 26)) w' → w'.cell? ⟨w.heap.size, 1, none⟩ = some (.slice a2 i.length c2) := fun w' hf => by
    have hb1 := hf.keep (heap_alloc_last w (.cells #[.slice a1 s.length c1, .slice a2 i.length c2] 26)) (by simp)
    rw [box_cell hb1]; rfl
  have HF := Lib.hid hF; have HS1 := Lib.hid hs1; have HS2 := Lib.hid hs2; have HC := Lib.hid hc
  clear hF hs1 hs2 hc h1 h2
  generalize setB s = r1 at *
  generalize setB i = r2 at *
  generalize s.length = n1 at *
  generalize i.length = n2 at *
  cases r1 with
  | true =>
    go_enter Try.func22, Try.ntmps22
    go_wp2_with fail
    refine HS1.out.mono ?_
    rintro e w1 ⟨rfl, hf⟩
    have hc1 := HC.out w1 hf
    have hs2 := HS2.out w1 hf
    have HF1 := Lib.hid (HF.out.trans hf)
    clear hf HS1 HS2 HC
    go_wp2_with fail
    refine hs2.mono ?_
    rintro e w2 ⟨rfl, hf⟩
    have HF2 := Lib.hid (HF1.out.trans hf)
    clear hf
    go_wp2_with fail
    go_ret
    exact ⟨by simp, HF2.out⟩
  | false =>
    go_enter Try.func22, Try.ntmps22
    go_wp2_with fail
    refine HS1.out.mono ?_
    rintro e w1 ⟨rfl, hf⟩
    have HF1 := Lib.hid (HF.out.trans hf)
    clear hf HS1 HS2 HC
    go_wp2_with fail
    go_ret
    exact ⟨by simp, HF1.out⟩
set_option maxRecDepth 100000 in
set_option maxHeartbeats 1000000 in
theorem rsame_calls (w : World) (a1 a2 b1 b2 : Option Addr) (c1 c2 d1 d2 : Nat) (s i t j : List Int) (h1 : RdI w a1 c1 s) (h2 : RdI w a2 c2 i) (h3 : RdI w b1 d1 t) (h4 : RdI w b2 d2 j) :
    Calls Try.prog 26 #[.agg #[.slice a1 s.length c1, .slice a2 i.length c2], .agg #[.slice b1 t.length d1, .slice b2 j.length d2]] w fun e w' => e = .returned (.bool (eqB s t && eqB i j)) ∧ Fr [] w w' := by
  have hF : Fr [] w ((w.alloc (.cells #[.slice a1 s.length c1, .slice a2 i.length c2] 26)).alloc (.cells #[.slice b1 t.length d1, .slice b2 j.length d2] 26)) := ((Fr.refl [] w).alloc _).alloc _
  have hs1 := sameset_calls _ a1 b1 c1 d1 s t (h1.keep hF) (h3.keep hF)
  have hs2 : ∀ w', Fr [] ((w.alloc (.cells #[.slice a1 s.length c1, .slice a2 i.length c2] 26)).alloc (.cells #[.slice b1 t.length d1, .slice b2 j.length d2] 26)) w' → Calls Try.prog 13 #[.slice a2 i.length c2, .slice b2 j.length d2] w' _ :=
    fun w' hf => sameset_calls w' a2 b2 c2 d2 i j (h2.keep (hF.trans hf)) (h4.keep (hF.trans hf))
  have hc : ∀ w', Fr [] ((w.alloc (.cells #[.slice a1 s.length c1, .slice a2 i.length c2] 26)).alloc (.cells #[.slice b1 t.length d1, .slice b2 j.length d2] 26)) w' → w'.cell? ⟨w.heap.size, 1, none⟩ = some (.slice a2 i.length c2) ∧ w'.cell? ⟨w.heap.size + 1, 1, none⟩ = some (.slice b2 j.length d2) := fun w' hf => by
    obtain ⟨hb1, hb2⟩ := two_boxes hf
    exact ⟨by rw [box_cell hb1]; rfl, by rw [box_cell hb2]; rfl⟩
  have HF := Lib.hid hF; have HS1 := Lib.hid hs1; have HS2 := Lib.hid hs2; have HC := Lib.hid hc
  clear hF hs1 hs2 hc h1 h2 h3 h4
  generalize eqB s t = r1 at *
  generalize eqB i j = r2 at *
  generalize s.length = n1 at *
  generalize i.length = n2 at *
  generalize t.length = n3 at *
  generalize j.length = n4 at *
  cases r1 with
  | true =>
    go_enter Try.func26, Try.ntmps26
    go_wp2_with fail
    refine HS1.out.mono ?_
    rintro e w1 ⟨rfl, hf⟩
    obtain ⟨hc1, hc2⟩ := HC.out w1 hf
    have hs2 := HS2.out w1 hf
    have HF1 := Lib.hid (HF.out.trans hf)
    clear hf HS1 HS2 HC
    go_wp2_with fail
    refine hs2.mono ?_
    rintro e w2 ⟨rfl, hf⟩
    have HF2 := Lib.hid (HF1.out.trans hf)
    clear hf
    go_wp2_with fail
    go_ret
    exact ⟨by simp, HF2.out⟩
  | false =>
    go_enter Try.func26, Try.ntmps26
    go_wp2_with fail
    refine HS1.out.mono ?_
    rintro e w1 ⟨rfl, hf⟩
    have HF1 := Lib.hid (HF.out.trans hf)
    clear hf HS1 HS2 HC
    go_wp2_with fail
    go_ret
    exact ⟨by simp, HF1.out⟩
set_option maxRecDepth 100000 in
set_option maxHeartbeats 1000000 in
theorem rflows_calls (w : World) (a1 a2 b1 b2 : Option Addr) (c1 c2 d1 d2 : Nat) (s i t j : List Int) (h1 : RdI w a1 c1 s) (h2 : RdI w a2 c2 i) (h3 : RdI w b1 d1 t) (h4 : RdI w b2 d2 j) :
    Calls Try.prog 28 #[.agg #[.slice a1 s.length c1, .slice a2 i.length c2], .agg #[.slice b1 t.length d1, .slice b2 j.length d2]] w fun e w' => e = .returned (.bool (subB s t && subB j i)) ∧ Fr [] w w' := by
  have hF : Fr [] w ((w.alloc (.cells #[.slice a1 s.length c1, .slice a2 i.length c2] 26)).alloc (.cells #[.slice b1 t.length d1, .slice b2 j.length d2] 26)) := ((Fr.refl [] w).alloc _).alloc _
  have hs1 := rsub_fr _ a1 b1 c1 d1 s t (h1.keep hF) (h3.keep hF)
  have hs2 : ∀ w', Fr [] ((w.alloc (.cells #[.slice a1 s.length c1, .slice a2 i.length c2] 26)).alloc (.cells #[.slice b1 t.length d1, .slice b2 j.length d2] 26)) w' → Calls Try.prog 21 #[.slice b2 j.length d2, .slice a2 i.length c2] w' _ :=
    fun w' hf => rsub_fr w' b2 a2 d2 c2 j i (h4.keep (hF.trans hf)) (h2.keep (hF.trans hf))
  have hc : ∀ w', Fr [] ((w.alloc (.cells #[.slice a1 s.length c1, .slice a2 i.length c2] 26)).alloc (.cells #[.slice b1 t.length d1, .slice b2 j.length d2] 26)) w' → w'.cell? ⟨w.heap.size, 1, none⟩ = some (.slice a2 i.length c2) ∧ w'.cell? ⟨w.heap.size + 1, 1, none⟩ = some (.slice b2 j.length d2) := fun w' hf => by
    obtain ⟨hb1, hb2⟩ := two_boxes hf
    exact ⟨by rw [box_cell hb1]; rfl, by rw [box_cell hb2]; rfl⟩
  have HF := Lib.hid hF; have HS1 := Lib.hid hs1; have HS2 := Lib.hid hs2; have HC := Lib.hid hc
  clear hF hs1 hs2 hc h1 h2 h3 h4
  generalize subB s t = r1 at *
  generalize subB j i = r2 at *
  generalize s.length = n1 at *
  generalize i.length = n2 at *
  generalize t.length = n3 at *
  generalize j.length = n4 at *
  cases r1 with
  | true =>
    go_enter Try.func28, Try.ntmps28
    go_wp2_with fail
    refine HS1.out.mono ?_
    rintro e w1 ⟨rfl, hf⟩
    obtain ⟨hc1, hc2⟩ := HC.out w1 hf
    have hs2 := HS2.out w1 hf
    have HF1 := Lib.hid (HF.out.trans hf)
    clear hf HS1 HS2 HC
    go_wp2_with fail
    refine hs2.mono ?_
    rintro e w2 ⟨rfl, hf⟩
    have HF2 := Lib.hid (HF1.out.trans hf)
    clear hf
    go_wp2_with fail
    go_ret
    exact ⟨by simp, HF2.out⟩
  | false =>
    go_enter Try.func28, Try.ntmps28
    go_wp2_with fail
    refine HS1.out.mono ?_
    rintro e w1 ⟨rfl, hf⟩
    have HF1 := Lib.hid (HF.out.trans hf)
    clear hf HS1 HS2 HC
    go_wp2_with fail
    go_ret
    exact ⟨by simp, HF1.out⟩
set_option maxRecDepth 100000 in
set_option maxHeartbeats 1000000 in
theorem rwithin_calls (w : World) (a1 a2 b1 b2 : Option Addr) (c1 c2 d1 d2 : Nat) (s i t j : List Int) (h1 : RdI w a1 c1 s) (h2 : RdI w a2 c2 i) (h3 : RdI w b1 d1 t) (h4 : RdI w b2 d2 j) :
    Calls Try.prog 34 #[.agg #[.slice a1 s.length c1, .slice a2 i.length c2], .agg #[.slice b1 t.length d1, .slice b2 j.length d2]] w fun e w' => e = .returned (.bool (subB s t && subB i j)) ∧ Fr [] w w' := by
  have hF : Fr [] w ((w.alloc (.cells #[.slice a1 s.length c1, .slice a2 i.length c2] 35)).alloc (.cells #[.slice b1 t.length d1, .slice b2 j.length d2] 35)) := ((Fr.refl [] w).alloc _).alloc _
  have hs1 := rsub_fr _ a1 b1 c1 d1 s t (h1.keep hF) (h3.keep hF)
  have hs2 : ∀ w', Fr [] ((w.alloc (.cells #[.slice a1 s.length c1, .slice a2 i.length c2] 35)).alloc (.cells #[.slice b1 t.length d1, .slice b2 j.length d2] 35)) w' → Calls Try.prog 21 #[.slice a2 i.length c2, .slice b2 j.length d2] w' _ :=
    fun w' hf => rsub_fr w' a2 b2 c2 d2 i j (h2.keep (hF.trans hf)) (h4.keep (hF.trans hf))
  have hc : ∀ w', Fr [] ((w.alloc (.cells #[.slice a1 s.length c1, .slice a2 i.length c2] 35)).alloc (.cells #[.slice b1 t.length d1, .slice b2 j.length d2] 35)) w' → w'.cell? ⟨w.heap.size, 1, none⟩ = some (.slice a2 i.length c2) ∧ w'.cell? ⟨w.heap.size + 1, 1, none⟩ = some (.slice b2 j.length d2) := fun w' hf => by
    obtain ⟨hb1, hb2⟩ := two_boxes hf
    exact ⟨by rw [box_cell hb1]; rfl, by rw [box_cell hb2]; rfl⟩
  have HF := Lib.hid hF; have HS1 := Lib.hid hs1; have HS2 := Lib.hid hs2; have HC := Lib.hid hc
  clear hF hs1 hs2 hc h1 h2 h3 h4
  generalize subB s t = r1 at *
  generalize subB i j = r2 at *
  generalize s.length = n1 at *
  generalize i.length = n2 at *
  generalize t.length = n3 at *
  generalize j.length = n4 at *
  cases r1 with
  | true =>
    go_enter Try.func34, Try.ntmps34
    go_wp2_with fail
    refine HS1.out.mono ?_
    rintro e w1 ⟨rfl, hf⟩
    obtain ⟨hc1, hc2⟩ := HC.out w1 hf
    have hs2 := HS2.out w1 hf
    have HF1 := Lib.hid (HF.out.trans hf)
    clear hf HS1 HS2 HC
    go_wp2_with fail
    refine hs2.mono ?_
    rintro e w2 ⟨rfl, hf⟩
    have HF2 := Lib.hid (HF1.out.trans hf)
    clear hf
    go_wp2_with fail
    go_ret
    exact ⟨by simp, HF2.out⟩
  | false =>
    go_enter Try.func34, Try.ntmps34
    go_wp2_with fail
    refine HS1.out.mono ?_
    rintro e w1 ⟨rfl, hf⟩
    have HF1 := Lib.hid (HF.out.trans hf)
    clear hf HS1 HS2 HC
    go_wp2_with fail
    go_ret
    exact ⟨by simp, HF1.out⟩
set_option maxRecDepth 100000 in
set_option maxHeartbeats 1000000 in
theorem rsamecaps_calls (w : World) (a1 a2 b1 b2 : Option Addr) (c1 c2 d1 d2 : Nat) (s i t j : List Int) (h1 : RdI w a1 c1 s) (h2 : RdI w a2 c2 i) (h3 : RdI w b1 d1 t) (h4 : RdI w b2 d2 j) :
    Calls Try.prog 35 #[.agg #[.slice a1 s.length c1, .slice a2 i.length c2], .agg #[.slice b1 t.length d1, .slice b2 j.length d2]] w fun e w' => e = .returned (.bool (eqB s t && eqB i j)) ∧ Fr [] w w' := by
  have hF : Fr [] w ((w.alloc (.cells #[.slice a1 s.length c1, .slice a2 i.length c2] 35)).alloc (.cells #[.slice b1 t.length d1, .slice b2 j.length d2] 35)) := ((Fr.refl [] w).alloc _).alloc _
  have hs1 := sameset_calls _ a1 b1 c1 d1 s t (h1.keep hF) (h3.keep hF)
  have hs2 : ∀ w', Fr [] ((w.alloc (.cells #[.slice a1 s.length c1, .slice a2 i.length c2] 35)).alloc (.cells #[.slice b1 t.length d1, .slice b2 j.length d2] 35)) w' → Calls Try.prog 13 #[.slice a2 i.length c2, .slice b2 j.length d2] w' _ :=
    fun w' hf => sameset_calls w' a2 b2 c2 d2 i j (h2.keep (hF.trans hf)) (h4.keep (hF.trans hf))
  have hc : ∀ w', Fr [] ((w.alloc (.cells #[.slice a1 s.length c1, .slice a2 i.length c2] 35)).alloc (.cells #[.slice b1 t.length d1, .slice b2 j.length d2] 35)) w' → w'.cell? ⟨w.heap.size, 1, none⟩ = some (.slice a2 i.length c2) ∧ w'.cell? ⟨w.heap.size + 1, 1, none⟩ = some (.slice b2 j.length d2) := fun w' hf => by
    obtain ⟨hb1, hb2⟩ := two_boxes hf
    exact ⟨by rw [box_cell hb1]; rfl, by rw [box_cell hb2]; rfl⟩
  have HF := Lib.hid hF; have HS1 := Lib.hid hs1; have HS2 := Lib.hid hs2; have HC := Lib.hid hc
  clear hF hs1 hs2 hc h1 h2 h3 h4
  generalize eqB s t = r1 at *
  generalize eqB i j = r2 at *
  generalize s.length = n1 at *
  generalize i.length = n2 at *
  generalize t.length = n3 at *
  generalize j.length = n4 at *
  cases r1 with
  | true =>
    go_enter Try.func35, Try.ntmps35
    go_wp2_with fail
    refine HS1.out.mono ?_
    rintro e w1 ⟨rfl, hf⟩
    obtain ⟨hc1, hc2⟩ := HC.out w1 hf
    have hs2 := HS2.out w1 hf
    have HF1 := Lib.hid (HF.out.trans hf)
    clear hf HS1 HS2 HC
    go_wp2_with fail
    refine hs2.mono ?_
    rintro e w2 ⟨rfl, hf⟩
    have HF2 := Lib.hid (HF1.out.trans hf)
    clear hf
    go_wp2_with fail
    go_ret
    exact ⟨by simp, HF2.out⟩
  | false =>
    go_enter Try.func35, Try.ntmps35
    go_wp2_with fail
    refine HS1.out.mono ?_
    rintro e w1 ⟨rfl, hf⟩
    have HF1 := Lib.hid (HF.out.trans hf)
    clear hf HS1 HS2 HC
    go_wp2_with fail
    go_ret
    exact ⟨by simp, HF1.out⟩
end Go.Proofs.Ytdbhppfpalpfmaa
