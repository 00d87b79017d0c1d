/-
  Bytes that come in.
-/
import Derived.Test.YtdbhppfpalpfmaaLabRow2
import Derived.Test.YtdbhppfpalpfmaaLabCdE
namespace Go.Proofs.Ytdbhppfpalpfmaa.row
open Go.ChangeShapes Go.WideShapes Go.ChangeAt Go.RowKit Go.MapKept
section
variable {H : Type} {enc : TypeId × Value → H}
theorem wf_byte {z : Int} (h : (Lit.int .u8 z).wf = true) : 0 ≤ z ∧ z < 256 := by
  simp [Lit.wf, IntKind.min, IntKind.max, IntKind.bits, IntKind.signed] at h
  omega
set_option maxRecDepth 100000 in
theorem arg_bytes {W : World} {r : Reach} {b0 : Nat} {v : Value} {d : DataW H} {p : List MemPlace} (hv : Value.okWide Try.prog W r b0 45 v) (h : DataW.Trod enc Try.prog W 0 (fun _ => true) true 45 v d p) (hw : ∀ n ∈ d.weights Try.prog 45, n ≤ reachBytes) :
    ∃ (a : Option Addr) (cap : Nat) (zs : List Int), v = .slice a zs.length cap ∧ RdB W a cap zs ∧ (a = none → cap = 0) ∧ zs.length + 130 ≤ 140737488355328 := by
  obtain ⟨a, len, cap, rfl⟩ := okWide_slice Try.underlying45 hv
  obtain ⟨fuel, hf⟩ := h
  have hf' : DataW.trod enc Try.prog W 0 (fun _ => true) true fuel 45 [.slice a len cap] = some (d, p) := by simpa [Value.cells] using hf
  clear hf
  rcases open_ints Try.underlying45 Try.underlying5 (by kernel_rfl) hf' with ⟨hcs, _⟩ | ⟨x, l, c, zs, hcs, _, hl, hm, hz, hx, hcell, hwz⟩
  · simp at hcs
    obtain ⟨rfl, rfl, rfl⟩ := hcs
    exact ⟨none, 0, [], rfl, RdB.empty _ _ (by omega), fun _ => rfl, by simp⟩
  · simp at hcs
    obtain ⟨rfl, rfl, rfl⟩ := hcs
    have hz' : zs.length = cap := by simpa using hz
    have hlen : (zs.take len).length = len := by simp; omega
    have hb : len ≤ 140737488351232 := by
      simp only [Prod.mk.injEq] at hx
      obtain ⟨rfl, rfl⟩ := hx
      have := hw (((lits (H := H) .u8 (zs.take len)).length + (lits (H := H) .u8 (zs.drop len)).length) * Try.prog.bytesOf 5) (by simp [DataW.weights, Try.underlying45])
      rw [show Try.prog.bytesOf 5 = 1 by kernel_rfl] at this
      unfold reachBytes at this
      simp [lits] at this
      omega
    refine ⟨some x, cap, zs.take len, by rw [hlen], ⟨by rw [hlen]; exact hl, by unfold maxLen at hm; omega, by rw [hlen]; omega, (fun h => by cases h), (fun a ha h0 => ?_), (fun z hz => wf_byte (hwz z (List.mem_of_mem_take hz)))⟩, (fun h => by cases h), by rw [hlen]; omega⟩
    cases ha
    rw [hlen] at h0
    obtain ⟨b, off, rfl, hcell'⟩ := ints_at hcell (by omega)
    refine ⟨b, off, rfl, fun j hj => ?_⟩
    rw [hlen] at hj
    rw [hcell' j (by omega)]
    simp [List.getD_eq_getElem?_getD, List.getElem?_take, hj]
end
end Go.Proofs.Ytdbhppfpalpfmaa.row
