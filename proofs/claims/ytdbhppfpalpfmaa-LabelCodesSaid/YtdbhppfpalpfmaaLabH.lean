/-
  Change: what may come of a label.
-/
import Derived.Test.YtdbhppfpalpfmaaLabF
namespace Go.Proofs.Ytdbhppfpalpfmaa
open Go.RowKit Go.MapKept
theorem three_boxes {w : World} {x y z : Array Value} {T U V : TypeId} {w' : World} (hf : Fr [] (((w.alloc (.cells x T)).alloc (.cells y U)).alloc (.cells z V)) w') :
    w'.heap[w.heap.size]? = some (.cells x T (0, 0)) ∧ w'.heap[w.heap.size + 1]? = some (.cells y U (0, 0)) ∧ w'.heap[w.heap.size + 1 + 1]? = some (.cells z V (0, 0)) := by
  obtain ⟨h1, h2⟩ := two_boxes (((Fr.refl [] _).alloc _).trans hf)
  refine ⟨h1, h2, hf.keep ?_ (by simp)⟩
  have := heap_alloc_last ((w.alloc (.cells x T)).alloc (.cells y U)) (.cells z V)
  simpa only [World.size_alloc] using this
def changeB (fs fi ts ti p m : List Int) : Bool := (setB ts && setB ti) && safeB fs ts p m && safeB fi ti p m
set_option maxRecDepth 100000 in
set_option maxHeartbeats 2000000 in
theorem change_calls (w : World) (fa fb ta tb ap am : Option Addr) (fc fd tc td cp cm : Nat) (fs fi ts ti p m : List Int) (h1 : RdI w fa fc fs) (h2 : RdI w fb fd fi) (h3 : RdI w ta tc ts) (h4 : RdI w tb td ti) (hp : RdI w ap cp p) (hm : RdI w am cm m) :
    Calls Try.prog 31 #[.agg #[.slice fa fs.length fc, .slice fb fi.length fd], .agg #[.slice ta ts.length tc, .slice tb ti.length td], .agg #[.slice ap p.length cp, .slice am m.length cm]] w fun e w' => e = .returned (.bool (changeB fs fi ts ti p m)) ∧ Fr [] w w' := by
  have hF : Fr [] w (((w.alloc (.cells #[.slice fa fs.length fc, .slice fb fi.length fd] 26)).alloc (.cells #[.slice ta ts.length tc, .slice tb ti.length td] 26)).alloc (.cells #[.slice ap p.length cp, .slice am m.length cm] 35)) := (((Fr.refl [] w).alloc _).alloc _).alloc _
  have hs1 := may_calls _ ta tb tc td ts ti (h3.keep hF) (h4.keep hF)
  have hs2 : ∀ w', Fr [] (((w.alloc (.cells #[.slice fa fs.length fc, .slice fb fi.length fd] 26)).alloc (.cells #[.slice ta ts.length tc, .slice tb ti.length td] 26)).alloc (.cells #[.slice ap p.length cp, .slice am m.length cm] 35)) w' → Calls Try.prog 29 #[.slice fa fs.length fc, .slice ta ts.length tc, .agg #[.slice ap p.length cp, .slice am m.length cm]] w' _ :=
    fun w' hf => safe_calls w' fa ta ap am fc tc cp cm fs ts p m (h1.keep (hF.trans hf)) (h3.keep (hF.trans hf)) (hp.keep (hF.trans hf)) (hm.keep (hF.trans hf))
  have hs3 : ∀ w', Fr [] (((w.alloc (.cells #[.slice fa fs.length fc, .slice fb fi.length fd] 26)).alloc (.cells #[.slice ta ts.length tc, .slice tb ti.length td] 26)).alloc (.cells #[.slice ap p.length cp, .slice am m.length cm] 35)) w' → Calls Try.prog 29 #[.slice fb fi.length fd, .slice tb ti.length td, .agg #[.slice ap p.length cp, .slice am m.length cm]] w' _ :=
    fun w' hf => safe_calls w' fb tb ap am fd td cp cm fi ti p m (h2.keep (hF.trans hf)) (h4.keep (hF.trans hf)) (hp.keep (hF.trans hf)) (hm.keep (hF.trans hf))
  have hc : ∀ w', Fr [] (((w.alloc (.cells #[.slice fa fs.length fc, .slice fb fi.length fd] 26)).alloc (.cells #[.slice ta ts.length tc, .slice tb ti.length td] 26)).alloc (.cells #[.slice ap p.length cp, .slice am m.length cm] 35)) w' → (w'.cell? ⟨w.heap.size, 0, none⟩ = some (.slice fa fs.length fc) ∧ w'.cell? ⟨w.heap.size, 1, none⟩ = some (.slice fb fi.length fd)) ∧ (w'.cell? ⟨w.heap.size + 1, 0, none⟩ = some (.slice ta ts.length tc) ∧ w'.cell? ⟨w.heap.size + 1, 1, none⟩ = some (.slice tb ti.length td)) ∧ (w'.cell? ⟨w.heap.size + 1 + 1, 0, none⟩ = some (.slice ap p.length cp) ∧ w'.cell? ⟨w.heap.size + 1 + 1, 1, none⟩ = some (.slice am m.length cm)) := fun w' hf => by
    obtain ⟨hb1, hb2, hb3⟩ := three_boxes hf
    exact ⟨⟨by rw [box_cell hb1]; rfl, by rw [box_cell hb1]; rfl⟩, ⟨by rw [box_cell hb2]; rfl, by rw [box_cell hb2]; rfl⟩, by rw [box_cell hb3]; rfl, by rw [box_cell hb3]; rfl⟩
  unfold changeB
  have HF := Lib.hid hF; have HS1 := Lib.hid hs1; have HS2 := Lib.hid hs2; have HS3 := Lib.hid hs3; have HC := Lib.hid hc
  clear hF hs1 hs2 hs3 hc h1 h2 h3 h4 hp hm
  generalize (setB ts && setB ti) = r1 at *
  generalize safeB fs ts p m = r2 at *
  generalize safeB fi ti p m = r3 at *
  generalize fs.length = n1 at *
  generalize fi.length = n2 at *
  generalize ts.length = n3 at *
  generalize ti.length = n4 at *
  generalize p.length = n5 at *
  generalize m.length = n6 at *
  rcases Bool.eq_false_or_eq_true r1 with rfl | rfl
  · rcases Bool.eq_false_or_eq_true r2 with rfl | rfl
    · go_enter Try.func31, Try.ntmps31
      go_wp2_with fail
      refine HS1.out.mono ?_
      rintro e w1 ⟨rfl, hf⟩
      obtain ⟨⟨hc1, hc2⟩, ⟨hc3, hc4⟩, hc5, hc6⟩ := HC.out w1 hf
      have hs2 := HS2.out w1 hf
      have HFa := Lib.hid hf
      clear hf HS1 HS2
      go_wp2_with fail
      refine hs2.mono ?_
      rintro e w2 ⟨rfl, hf⟩
      clear hc1 hc2 hc3 hc4 hc5 hc6
      obtain ⟨⟨hc1, hc2⟩, ⟨hc3, hc4⟩, hc5, hc6⟩ := HC.out w2 (HFa.out.trans hf)
      have hs3 := HS3.out w2 (HFa.out.trans hf)
      have HFb := Lib.hid (HFa.out.trans hf)
      clear hf HS3 HC HFa
      go_wp2_with fail
      refine hs3.mono ?_
      rintro e w3 ⟨rfl, hf⟩
      have HF1 := Lib.hid ((HF.out.trans HFb.out).trans hf)
      clear hf
      go_wp2_with fail
      go_ret
      exact ⟨by simp, HF1.out⟩
    · go_enter Try.func31, Try.ntmps31
      go_wp2_with fail
      refine HS1.out.mono ?_
      rintro e w1 ⟨rfl, hf⟩
      obtain ⟨⟨hc1, hc2⟩, ⟨hc3, hc4⟩, hc5, hc6⟩ := HC.out w1 hf
      have hs2 := HS2.out w1 hf
      have HFa := Lib.hid hf
      clear hf HS1 HS2
      go_wp2_with fail
      refine hs2.mono ?_
      rintro e w2 ⟨rfl, hf⟩
      clear hc1 hc2 hc3 hc4 hc5 hc6
      have HF1 := Lib.hid ((HF.out.trans HFa.out).trans hf)
      clear hf HS3 HC
      go_wp2_with fail
      go_ret
      exact ⟨by simp, HF1.out⟩
  · go_enter Try.func31, Try.ntmps31
    go_wp2_with fail
    refine HS1.out.mono ?_
    rintro e w1 ⟨rfl, hf⟩
    have HF1 := Lib.hid (HF.out.trans hf)
    clear hf HS1 HS2 HS3 HC
    go_wp2_with fail
    go_ret
    exact ⟨by simp, HF1.out⟩
end Go.Proofs.Ytdbhppfpalpfmaa
