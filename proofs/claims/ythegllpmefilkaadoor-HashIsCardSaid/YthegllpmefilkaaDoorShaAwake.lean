/-
  What the document fixes: the digits of the sum of abc.
-/
import Derived.Test.YthegllpmefilkaaDoorHex
import Derived.Lib.SlBytesConst
namespace Go.Proofs.YthegllpmefilkaaDoor
open Go.RowKit Go.MapKept
theorem own_reads {w : World} {B : Nat} {T : TypeId} {v : Value} {n : Nat} {s : List UInt8} (h : w.ownsRow B T 1 v n (cel s)) (hs : s.length ≤ 281474976710656) : ∃ ad cap, v = .slice ad s.length cap ∧ Reads w ad cap s := by
  have hl : s.length = n := by have := h.1; rw [cel_length] at this; omega
  rcases h.2 with ⟨rfl, rfl⟩ | ⟨g, cap, cur, rfl, _, hg, h1, h2, h3, h4⟩
  · obtain rfl : s = [] := List.eq_nil_of_length_eq_zero hl
    exact ⟨none, 0, rfl, Nat.le_refl _, by omega, hs, fun _ => rfl, (fun a ha _ => by cases ha)⟩
  · refine ⟨_, cap, by rw [hl], by omega, by unfold maxLen at h2; omega, hs, (fun h => by cases h), fun a ha _ => ?_⟩
    cases ha
    refine ⟨g, 0, rfl, fun j v hv => ?_⟩
    rw [Nat.zero_add, box_cell hg]
    have : (cur.toList.take (n * 1))[j]? = some v := by rw [h4]; exact hv
    rw [List.getElem?_take] at this
    split at this
    · simpa using this
    · cases this
theorem shaB_length (m : List UInt8) : (shaB m).length = 32 := by unfold shaB; rw [outB_length]; rfl
def abcHex : List UInt8 := [98, 97, 55, 56, 49, 54, 98, 102, 56, 102, 48, 49, 99, 102, 101, 97, 52, 49, 52, 49, 52, 48, 100, 101, 53, 100, 97, 101, 50, 50, 50, 51, 98, 48, 48, 51, 54, 49, 97, 51, 57, 54, 49, 55, 55, 97, 57, 99, 98, 52, 49, 48, 102, 102, 54, 49, 102, 50, 48, 48, 49, 53, 97, 100]
set_option maxRecDepth 100000 in
theorem abc_hex : hexB (shaB [97, 98, 99]) = abcHex := by decide +kernel
set_option maxRecDepth 100000 in
set_option maxHeartbeats 1000000 in
theorem awake_calls (w : World) (hT : TabAt w) : Calls Tryd.prog 8 #[] w fun e w' => e = .returned (.bool true) ∧ Fr [] w w' := by
  have HT := Lib.hid hT; clear hT
  have hF : Fr [] w (w.alloc (.cells #[.int .u8 97, .int .u8 98, .int .u8 99] 5 (3, 4))) := (Fr.refl [] w).alloc _
  have hR : Reads (w.alloc (.cells #[.int .u8 97, .int .u8 98, .int .u8 99] 5 (3, 4))) (some ⟨w.heap.size, 0, none⟩) 3 [97, 98, 99] :=
    ⟨Nat.le_refl _, by decide, by decide, (fun h => by cases h), fun a ha _ => by cases ha; exact ⟨_, 0, rfl, fun j v hv => by rw [Nat.zero_add, box_cell (heap_alloc_last _ _)]; simpa [cel] using hv⟩⟩
  have hsh := sha_calls _ _ _ _ hR (HT.out.keep hF (by simp)) (fun a ha => by cases ha; exact ⟨_, _, rfl⟩)
  have HF := Lib.hid hF; have HSH := Lib.hid hsh; clear hF hR hsh
  go_enter Tryd.func8, Tryd.ntmps8
  have hcv := Lib.run_convert_bytes_const (P := Tryd.prog) w 23 5 #[.int .u8 97, .int .u8 98, .int .u8 99] 3 3 Tryd.underlying23 Tryd.underlying5
  simp only [List.size_toArray, List.length_cons, List.length_nil, Nat.zero_add, Nat.reduceAdd] at hcv
  go_wp2_with fail
  refine HSH.out.mono ?_
  rintro e w2 ⟨v, rfl, hown, hf2⟩
  obtain ⟨ad, cap, rfl, hrd⟩ := own_reads hown (by rw [shaB_length]; decide)
  have hx := hex_calls w2 ad cap _ hrd (by rw [shaB_length]; decide)
  rw [abc_hex] at hx
  have HX := Lib.hid hx
  have HF2 := Lib.hid (HF.out.trans hf2)
  clear hown hf2 hrd hx hcv
  go_wp2_with fail
  refine HX.out.mono ?_
  rintro e w3 ⟨rfl, hf3⟩
  have hF3 := HF2.out.trans hf3
  clear HX hf3
  have heq : (⟨abcHex.toArray⟩ : ByteArray) = ⟨#[98, 97, 55, 56, 49, 54, 98, 102, 56, 102, 48, 49, 99, 102, 101, 97, 52, 49, 52, 49, 52, 48, 100, 101, 53, 100, 97, 101, 50, 50, 50, 51, 98, 48, 48, 51, 54, 49, 97, 51, 57, 54, 49, 55, 55, 97, 57, 99, 98, 52, 49, 48, 102, 102, 54, 49, 102, 50, 48, 48, 49, 53, 97, 100]⟩ := rfl
  rw [heq]
  clear heq
  go_wp2_with fail
  go_ret
  exact ⟨rfl, hF3⟩
end Go.Proofs.YthegllpmefilkaaDoor
