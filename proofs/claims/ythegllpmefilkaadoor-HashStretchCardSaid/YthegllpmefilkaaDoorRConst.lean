/-
  The document's constants, and its SHA-256.
-/
import Derived.Test.YthegllpmefilkaaDoorRSum
namespace Go.Proofs.YthegllpmefilkaaDoor
open Go.RowKit Go.MapKept
theorem alloc3_heap (w : World) (o1 o2 o3 : Obj) : (((w.alloc o1).alloc o2).alloc o3).heap[w.heap.size]? = some o1 ∧ (((w.alloc o1).alloc o2).alloc o3).heap[w.heap.size + 1]? = some o2 ∧ (((w.alloc o1).alloc o2).alloc o3).heap[w.heap.size + 1 + 1]? = some o3 := by
  have h1 := heap_alloc_last w o1
  have h2 := heap_alloc_last (w.alloc o1) o2
  have h3 := heap_alloc_last ((w.alloc o1).alloc o2) o3
  have e1 : (w.alloc o1).heap.size = w.heap.size + 1 := by simp
  have e2 : ((w.alloc o1).alloc o2).heap.size = w.heap.size + 1 + 1 := by simp
  rw [e1] at h2
  rw [e2] at h3
  exact ⟨(((Fr.refl [] (w.alloc o1)).alloc o2).alloc o3).keep h1 (by simp), ((Fr.refl [] ((w.alloc o1).alloc o2)).alloc o3).keep h2 (by simp), h3⟩
set_option maxRecDepth 1000000 in
set_option maxHeartbeats 8000000 in
theorem const_calls (w : World) : Calls Tryd.prog 22 #[] w fun e w' => ∃ gk gh, e = .returned (.agg #[.slice (some ⟨gk, 0, none⟩) 64 64, .slice (some ⟨gh, 0, none⟩) 8 8]) ∧ ConstAt w' gk gh ∧ Fr [] w w' := by
  go_enter Tryd.func22, Tryd.ntmps22
  go_wp2_with fail
  obtain ⟨hb, hk, hh⟩ := alloc3_heap w (.cells #[.slice (some ⟨w.heap.size + 1, 0, none⟩) 64 64, .slice (some ⟨w.heap.size + 1 + 1, 0, none⟩) 8 8] 45) (.cells (wv tabK) 34) (.cells (wv st0.l) 34)
  have hF : Fr [] w (((w.alloc (.cells #[.slice (some ⟨w.heap.size + 1, 0, none⟩) 64 64, .slice (some ⟨w.heap.size + 1 + 1, 0, none⟩) 8 8] 45)).alloc (.cells (wv tabK) 34)).alloc (.cells (wv st0.l) 34)) := (((Fr.refl [] w).alloc _).alloc _).alloc _
  have hd0 := box_cell hb 0
  have hd1 := box_cell hb 1
  simp only [List.getElem?_toArray, List.getElem?_cons_zero, List.getElem?_cons_succ] at hd0 hd1
  refine bodyPost_ret (w := ((w.alloc (.cells #[.slice (some ⟨w.heap.size + 1, 0, none⟩) 64 64, .slice (some ⟨w.heap.size + 1 + 1, 0, none⟩) 8 8] 45)).alloc (.cells (wv tabK) 34)).alloc (.cells (wv st0.l) 34)) (v := .agg #[.slice (some ⟨w.heap.size + 1, 0, none⟩) 64 64, .slice (some ⟨w.heap.size + 1 + 1, 0, none⟩) 8 8]) ?_ rfl ⟨_, _, rfl, ⟨hk, hh⟩, hF⟩
  clear hk hh hF hb
  generalize ((w.alloc (.cells #[.slice (some ⟨w.heap.size + 1, 0, none⟩) 64 64, .slice (some ⟨w.heap.size + 1 + 1, 0, none⟩) 8 8] 45)).alloc (.cells (wv tabK) 34)).alloc (.cells (wv st0.l) 34) = wf at *
  simp [results, Tryd.f22, go_sem, hd0, hd1]
set_option maxRecDepth 100000 in
set_option maxHeartbeats 2000000 in
theorem rsha_calls (w : World) (m : List UInt8) (hl : m.length ≤ 1073741824) : Calls Tryd.prog 10 #[.string ⟨m.toArray⟩] w (NewB w (shaB m)) := by
  have HL := Lib.hid hl; clear hl
  go_enter Tryd.func10, Tryd.ntmps10
  go_wp2_with fail
  refine (const_calls w).mono ?_
  rintro e w1 ⟨gk, gh, rfl, hc, hf⟩
  have HC := Lib.hid hc; have HF := Lib.hid hf
  clear hc hf
  go_wp2_with fail
  refine (sum_calls w1 gk gh HC.out m HL.out).mono ?_
  rintro e w2 ⟨v, rfl, ho, hf⟩
  have HN : Hid (NewB w (shaB m) (.returned v) w2) := Lib.hid ⟨v, rfl, ownsRow_lower ho HF.out.size, HF.out.trans hf⟩
  clear ho hf
  go_wp2_with fail
  go_ret
  exact HN.out
end Go.Proofs.YthegllpmefilkaaDoor
