/-
  wal: lists that come in: how they read.
-/
import Derived.Test.YtoifpbifipgpkaaMapI
import Derived.Test.YtoifpbifipgpkaaProg
import Derived.Test.YtoifpbifipgpkaaRows
import Derived.ProofKit
import Derived.OpenShut
import Derived.ChangeOld
import Derived.Below
import Derived.SizedLaws
import Derived.Lib.SmallJoins
namespace Go.Proofs.Ytoifpbifipgpkaa
open Go.ChangeShapes Go.WideShapes Go.ChangeAt Go.RowKit Go.MapKept
structure RdI (w : World) (ad : Option Addr) (cap : Nat) (zs : List Int) : Prop where
  le : zs.length ≤ cap
  cb : cap ≤ 9223372036854775807
  big : zs.length * 8 ≤ 140737488355328
  nil : ad = none → zs.length = 0
  at_ : ∀ a, ad = some a → 0 < zs.length → ∃ b off, a = ⟨b, off, none⟩ ∧ ∀ j, j < zs.length → w.cell? ⟨b, off + j, none⟩ = some (.int .i64 (zs.getD j 0))
theorem RdI.keep {w w' : World} {ad : Option Addr} {cap : Nat} {zs : List Int} (h : RdI w ad cap zs) (hf : Fr [] w w') : RdI w' ad cap zs :=
  ⟨h.le, h.cb, h.big, h.nil, fun a ha hl => by
    obtain ⟨b, off, rfl, hc⟩ := h.at_ a ha hl
    refine ⟨b, off, rfl, fun j hj => ?_⟩
    have hcj := hc j hj
    rw [World.cell?_of_block (w := w) (hf.block b (World.block_lt_of_cell? _ _ hcj) (by simp))]
    exact hcj⟩
end Go.Proofs.Ytoifpbifipgpkaa
namespace Go.Proofs.Ytoifpbifipgpkaa.row
open Go.ChangeShapes Go.WideShapes Go.ChangeAt Go.RowKit Go.MapKept
theorem own : ownKnob Try.prog.godebug = none := by kernel_rfl
theorem laidOut : laidOutB Try.prog = true := by kernel_rfl
section
variable {H : Type} {enc : TypeId × Value → H}
theorem open_il {W : World} {fuel : Nat} {v : Value} {y : DataW H × List MemPlace} (hf : DataW.trod enc Try.prog W 0 (fun _ => true) true fuel 41 [v] = some y) (hw : ∀ n ∈ y.1.weights Try.prog 41, n ≤ reachBytes) :
    ∃ (a : Option Addr) (cap : Nat) (zs : List Int), v = .slice a zs.length cap ∧ RdI W a cap zs := by
  rcases open_ints Try.underlying41 Try.underlying3 (by kernel_rfl) hf with ⟨hcs, _⟩ | ⟨x, l, c, zs, hcs, _, hl, hm, hz, hx, hcell, hwz⟩
  · simp at hcs
    subst hcs
    exact ⟨none, 0, [], rfl, ⟨by simp, by omega, by simp, fun _ => rfl, fun a ha => by cases ha⟩⟩
  · simp at hcs
    subst hcs
    have hz' : zs.length = c := by simpa using hz
    have hlen : (zs.take l).length = l := by simp; omega
    have hb : l * 8 ≤ 140737488351232 := by
      subst hx
      have := hw (((lits (H := H) .i64 (zs.take l)).length + (lits (H := H) .i64 (zs.drop l)).length) * Try.prog.bytesOf 3) (by simp [DataW.weights, Try.underlying41])
      rw [show Try.prog.bytesOf 3 = 8 by kernel_rfl] at this
      unfold reachBytes at this
      simp [lits] at this
      omega
    refine ⟨some x, c, zs.take l, by rw [hlen], ⟨by rw [hlen]; exact hl, by unfold maxLen at hm; omega, by rw [hlen]; omega, (fun h => by cases h), fun a ha h0 => ?_⟩⟩
    cases ha
    rw [hlen] at h0
    obtain ⟨b, off, rfl, hcell'⟩ := ints_at hcell (by omega)
    refine ⟨b, off, rfl, fun j hj => ?_⟩
    rw [hlen] at hj
    rw [hcell' j (by omega)]
    simp [List.getD_eq_getElem?_getD, List.getElem?_take, hj]
theorem weights_mem {P : Program} {ts : List TypeId} {ds : List (DataW H)} (h : (DataW.weightsEach P ts ds).all (· ≤ reachBytes) = true) {j : Nat} {t : TypeId} {d : DataW H} (ht : ts[j]? = some t) (hd : ds[j]? = some d) : ∀ n ∈ d.weights P t, n ≤ reachBytes := fun n hn => by
  have := List.all_eq_true.1 h n (DataW.weights_mem_each ht hd n hn)
  simpa using this
set_option maxRecDepth 100000 in
/-- A slice of ints that came in. -/
theorem arg_il {W : World} {r : Reach} {b0 : Nat} {v : Value} {d : DataW H} {p : List MemPlace} (hv : Value.okWide Try.prog W r b0 41 v) (h : DataW.Trod enc Try.prog W 0 (fun _ => true) true 41 v d p) (hw : ∀ n ∈ d.weights Try.prog 41, n ≤ reachBytes) :
    ∃ (a : Option Addr) (cap : Nat) (zs : List Int), v = .slice a zs.length cap ∧ RdI W a cap zs := by
  obtain ⟨a, len, cap, rfl⟩ := okWide_slice Try.underlying41 hv
  obtain ⟨fuel, hf⟩ := h
  exact open_il (y := (d, p)) (by simpa [Value.cells] using hf) hw
end
end Go.Proofs.Ytoifpbifipgpkaa.row
