/-
  Flows, Same, Safe, Change.
-/
import Derived.Test.YtdbhppfpalpfmaaLabE
namespace Go.Proofs.Ytdbhppfpalpfmaa
open Go.RowKit Go.MapKept
/-- Two boxes that were laid one behind the other. -/
theorem two_boxes {w : World} {x y : Array Value} {T U : TypeId} {w' : World} (hf : Fr [] ((w.alloc (.cells x T)).alloc (.cells y U)) w') :
    w'.heap[w.heap.size]? = some (.cells x T (0, 0)) ∧ w'.heap[w.heap.size + 1]? = some (.cells y U (0, 0)) := by
  constructor
  · exact hf.keep ((Below.heap_alloc _ _ _ (by simp)).trans (heap_alloc_last w _)) (by simp)
  · refine hf.keep ?_ (by simp)
    have := heap_alloc_last (w.alloc (.cells x T)) (.cells y U)
    rwa [World.size_alloc] at this
set_option maxRecDepth 100000 in
set_option maxHeartbeats 1000000 in
theorem flows_calls (w : World) (a1 a2 b1 b2 : Option Addr) (c1 c2 d1 d2 : Nat) (s i t j : List Int) (h1 : RdI w a1 c1 s) (h2 : RdI w a2 c2 i) (h3 : RdI w b1 d1 t) (h4 : RdI w b2 d2 j) :
    Calls Try.prog 27 #[.agg #[.slice a1 s.length c1, .slice a2 i.length c2], .agg #[.slice b1 t.length d1, .slice b2 j.length d2]] w fun e w' => e = .returned (.bool (subB s t && subB j i)) ∧ Fr [] w w' := by
  have hF : Fr [] w ((w.alloc (.cells #[.slice a1 s.length c1, .slice a2 i.length c2] 26)).alloc (.cells #[.slice b1 t.length d1, .slice b2 j.length d2] 26)) := ((Fr.refl [] w).alloc _).alloc _
  have hs1 := sub_calls _ a1 b1 c1 d1 s t (h1.keep hF) (h3.keep hF)
  have hs2 : ∀ w', Fr [] ((w.alloc (.cells #[.slice a1 s.length c1, .slice a2 i.length c2] 26)).alloc (.cells #[.slice b1 t.length d1, .slice b2 j.length d2] 26)) w' → Calls Try.prog 20 #[.slice b2 j.length d2, .slice a2 i.length c2] w' _ :=
    fun w' hf => sub_calls w' b2 a2 d2 c2 j i (h4.keep (hF.trans hf)) (h2.keep (hF.trans hf))
  have hc : ∀ w', Fr [] ((w.alloc (.cells #[.slice a1 s.length c1, .slice a2 i.length c2] 26)).alloc (.cells #[.slice b1 t.length d1, .slice b2 j.length d2] 26)) w' → w'.cell? ⟨w.heap.size, 1, none⟩ = some (.slice a2 i.length c2) ∧ w'.cell? ⟨w.heap.size + 1, 1, none⟩ = some (.slice b2 j.length d2) := fun w' hf => by
    obtain ⟨hb1, hb2⟩ := two_boxes hf
    exact ⟨by rw [box_cell hb1]; rfl, by rw [box_cell hb2]; rfl⟩
  have HF := Lib.hid hF; have HS1 := Lib.hid hs1; have HS2 := Lib.hid hs2; have HC := Lib.hid hc
  clear hF hs1 hs2 hc h1 h2 h3 h4
  generalize subB s t = r1 at *
  generalize subB j i = r2 at *
  generalize s.length = n1 at *
  generalize i.length = n2 at *
  generalize t.length = n3 at *
  generalize j.length = n4 at *
  cases r1 with
  | true =>
    go_enter Try.func27, Try.ntmps27
    go_wp2_with fail
    refine HS1.out.mono ?_
    rintro e w1 ⟨rfl, hf⟩
    obtain ⟨hc1, hc2⟩ := HC.out w1 hf
    have hs2 := HS2.out w1 hf
    have HF1 := Lib.hid (HF.out.trans hf)
    clear hf HS1 HS2 HC
    go_wp2_with fail
    refine hs2.mono ?_
    rintro e w2 ⟨rfl, hf⟩
    have HF2 := Lib.hid (HF1.out.trans hf)
    clear hf
    go_wp2_with fail
    go_ret
    exact ⟨by simp, HF2.out⟩
  | false =>
    go_enter Try.func27, Try.ntmps27
    go_wp2_with fail
    refine HS1.out.mono ?_
    rintro e w1 ⟨rfl, hf⟩
    have HF1 := Lib.hid (HF.out.trans hf)
    clear hf HS1 HS2 HC
    go_wp2_with fail
    go_ret
    exact ⟨by simp, HF1.out⟩
def flowsB (s i t j : List Int) : Bool := subB s t && subB j i
set_option maxRecDepth 100000 in
set_option maxHeartbeats 1000000 in
theorem same_calls (w : World) (a1 a2 b1 b2 : Option Addr) (c1 c2 d1 d2 : Nat) (s i t j : List Int) (h1 : RdI w a1 c1 s) (h2 : RdI w a2 c2 i) (h3 : RdI w b1 d1 t) (h4 : RdI w b2 d2 j) :
    Calls Try.prog 25 #[.agg #[.slice a1 s.length c1, .slice a2 i.length c2], .agg #[.slice b1 t.length d1, .slice b2 j.length d2]] w fun e w' => e = .returned (.bool (flowsB s i t j && flowsB t j s i)) ∧ Fr [] w w' := by
  have hF : Fr [] w ((w.alloc (.cells #[.slice a1 s.length c1, .slice a2 i.length c2] 26)).alloc (.cells #[.slice b1 t.length d1, .slice b2 j.length d2] 26)) := ((Fr.refl [] w).alloc _).alloc _
  have hs1 := flows_calls _ a1 a2 b1 b2 c1 c2 d1 d2 s i t j (h1.keep hF) (h2.keep hF) (h3.keep hF) (h4.keep hF)
  have hs2 : ∀ w', Fr [] ((w.alloc (.cells #[.slice a1 s.length c1, .slice a2 i.length c2] 26)).alloc (.cells #[.slice b1 t.length d1, .slice b2 j.length d2] 26)) w' → Calls Try.prog 27 #[.agg #[.slice b1 t.length d1, .slice b2 j.length d2], .agg #[.slice a1 s.length c1, .slice a2 i.length c2]] w' _ :=
    fun w' hf => flows_calls w' b1 b2 a1 a2 d1 d2 c1 c2 t j s i (h3.keep (hF.trans hf)) (h4.keep (hF.trans hf)) (h1.keep (hF.trans hf)) (h2.keep (hF.trans hf))
  have hc : ∀ w', Fr [] ((w.alloc (.cells #[.slice a1 s.length c1, .slice a2 i.length c2] 26)).alloc (.cells #[.slice b1 t.length d1, .slice b2 j.length d2] 26)) w' → (w'.cell? ⟨w.heap.size, 0, none⟩ = some (.slice a1 s.length c1) ∧ w'.cell? ⟨w.heap.size, 1, none⟩ = some (.slice a2 i.length c2)) ∧ (w'.cell? ⟨w.heap.size + 1, 0, none⟩ = some (.slice b1 t.length d1) ∧ w'.cell? ⟨w.heap.size + 1, 1, none⟩ = some (.slice b2 j.length d2)) := fun w' hf => by
    obtain ⟨hb1, hb2⟩ := two_boxes hf
    exact ⟨⟨by rw [box_cell hb1]; rfl, by rw [box_cell hb1]; rfl⟩, by rw [box_cell hb2]; rfl, by rw [box_cell hb2]; rfl⟩
  rw [show (subB s t && subB j i) = flowsB s i t j from rfl] at hs1
  have hs2' : ∀ w', Fr [] ((w.alloc (.cells #[.slice a1 s.length c1, .slice a2 i.length c2] 26)).alloc (.cells #[.slice b1 t.length d1, .slice b2 j.length d2] 26)) w' → Calls Try.prog 27 #[.agg #[.slice b1 t.length d1, .slice b2 j.length d2], .agg #[.slice a1 s.length c1, .slice a2 i.length c2]] w' (fun e w'' => e = .returned (.bool (flowsB t j s i)) ∧ Fr [] w' w'') := hs2
  have HF := Lib.hid hF; have HS1 := Lib.hid hs1; have HS2 := Lib.hid hs2'; have HC := Lib.hid hc
  clear hF hs1 hs2 hs2' hc h1 h2 h3 h4
  generalize flowsB s i t j = r1 at *
  generalize flowsB t j s i = r2 at *
  generalize s.length = n1 at *
  generalize i.length = n2 at *
  generalize t.length = n3 at *
  generalize j.length = n4 at *
  cases r1 with
  | true =>
    go_enter Try.func25, Try.ntmps25
    go_wp2_with fail
    refine HS1.out.mono ?_
    rintro e w1 ⟨rfl, hf⟩
    obtain ⟨⟨hc1, hc2⟩, hc3, hc4⟩ := HC.out w1 hf
    have hs2 := HS2.out w1 hf
    have HF1 := Lib.hid (HF.out.trans hf)
    clear hf HS1 HS2 HC
    go_wp2_with fail
    refine hs2.mono ?_
    rintro e w2 ⟨rfl, hf⟩
    have HF2 := Lib.hid (HF1.out.trans hf)
    clear hf
    go_wp2_with fail
    go_ret
    exact ⟨by simp, HF2.out⟩
  | false =>
    go_enter Try.func25, Try.ntmps25
    go_wp2_with fail
    refine HS1.out.mono ?_
    rintro e w1 ⟨rfl, hf⟩
    have HF1 := Lib.hid (HF.out.trans hf)
    clear hf HS1 HS2 HC
    go_wp2_with fail
    go_ret
    exact ⟨by simp, HF1.out⟩
def safeB (f t p m : List Int) : Bool := subB (lessB t f) p && subB (lessB f t) m
set_option maxRecDepth 100000 in
set_option maxHeartbeats 1000000 in
theorem safe_calls (w : World) (a1 a2 ap am : Option Addr) (c1 c2 cp cm : Nat) (f t p m : List Int) (h1 : RdI w a1 c1 f) (h2 : RdI w a2 c2 t) (hp : RdI w ap cp p) (hm : RdI w am cm m) :
    Calls Try.prog 29 #[.slice a1 f.length c1, .slice a2 t.length c2, .agg #[.slice ap p.length cp, .slice am m.length cm]] w fun e w' => e = .returned (.bool (safeB f t p m)) ∧ Fr [] w w' := by
  have hF : Fr [] w (w.alloc (.cells #[.slice ap p.length cp, .slice am m.length cm] 35)) := (Fr.refl [] w).alloc _
  have hs1 := allowed_plus _ a2 a1 ap am c2 c1 cp cm t f p m (h2.keep hF) (h1.keep hF) (hp.keep hF) (hm.keep hF)
  have hs2 : ∀ w', Fr [] (w.alloc (.cells #[.slice ap p.length cp, .slice am m.length cm] 35)) w' → Calls Try.prog 56 #[.slice a1 f.length c1, .slice a2 t.length c2, .agg #[.slice ap p.length cp, .slice am m.length cm], .func (.func 58) #[] #[]] w' _ :=
    fun w' hf => allowed_minus w' a1 a2 ap am c1 c2 cp cm f t p m (h1.keep (hF.trans hf)) (h2.keep (hF.trans hf)) (hp.keep (hF.trans hf)) (hm.keep (hF.trans hf))
  have hc : ∀ w', Fr [] (w.alloc (.cells #[.slice ap p.length cp, .slice am m.length cm] 35)) w' → w'.cell? ⟨w.heap.size, 0, none⟩ = some (.slice ap p.length cp) ∧ w'.cell? ⟨w.heap.size, 1, none⟩ = some (.slice am m.length cm) := fun w' hf => by
    have hb := hf.keep (heap_alloc_last w (.cells #[.slice ap p.length cp, .slice am m.length cm] 35)) (by simp)
    exact ⟨by rw [box_cell hb]; rfl, by rw [box_cell hb]; rfl⟩
  unfold safeB
  have HF := Lib.hid hF; have HS1 := Lib.hid hs1; have HS2 := Lib.hid hs2; have HC := Lib.hid hc
  clear hF hs1 hs2 hc h1 h2 hp hm
  generalize subB (lessB t f) p = r1 at *
  generalize subB (lessB f t) m = r2 at *
  generalize f.length = n1 at *
  generalize t.length = n2 at *
  generalize p.length = n3 at *
  generalize m.length = n4 at *
  cases r1 with
  | true =>
    go_enter Try.func29, Try.ntmps29
    go_wp2_with fail
    refine HS1.out.mono ?_
    rintro e w1 ⟨rfl, hf⟩
    obtain ⟨hc1, hc2⟩ := HC.out w1 hf
    have hs2 := HS2.out w1 hf
    have HF1 := Lib.hid (HF.out.trans hf)
    clear hf HS1 HS2 HC
    go_wp2_with fail
    refine hs2.mono ?_
    rintro e w2 ⟨rfl, hf⟩
    have HF2 := Lib.hid (HF1.out.trans hf)
    clear hf
    go_wp2_with fail
    go_ret
    exact ⟨by simp, HF2.out⟩
  | false =>
    go_enter Try.func29, Try.ntmps29
    go_wp2_with fail
    refine HS1.out.mono ?_
    rintro e w1 ⟨rfl, hf⟩
    have HF1 := Lib.hid (HF.out.trans hf)
    clear hf HS1 HS2 HC
    go_wp2_with fail
    go_ret
    exact ⟨by simp, HF1.out⟩
end Go.Proofs.Ytdbhppfpalpfmaa
