/-
  Bytes of a label: what is written, what is read.
-/
import Derived.Test.YtdbhppfpalpfmaaLabRO
namespace Go.Proofs.Ytdbhppfpalpfmaa
open Go.RowKit Go.MapKept
/-- A slice of bytes as it reads. -/
structure RdB (w : World) (ad : Option Addr) (cap : Nat) (bs : List Int) : Prop where
  le : bs.length ≤ cap
  cb : cap ≤ 9223372036854775807
  big : bs.length ≤ 140737488355328
  nil : ad = none → bs.length = 0
  at_ : ∀ a, ad = some a → 0 < bs.length → ∃ b off, a = ⟨b, off, none⟩ ∧ ∀ j, j < bs.length → w.cell? ⟨b, off + j, none⟩ = some (.int .u8 (bs.getD j 0))
  isB : ∀ x ∈ bs, 0 ≤ x ∧ x < 256
theorem RdB.keep {w w' : World} {ad : Option Addr} {cap : Nat} {bs : List Int} (h : RdB w ad cap bs) (hf : Fr [] w w') : RdB w' ad cap bs :=
  ⟨h.le, h.cb, h.big, h.nil, fun a ha hl => by
    obtain ⟨b, off, rfl, hc⟩ := h.at_ a ha hl
    refine ⟨b, off, rfl, fun j hj => ?_⟩
    have hcj := hc j hj
    rw [World.cell?_of_block (w := w) (hf.block b (World.block_lt_of_cell? _ _ hcj) (by simp))]
    exact hcj, h.isB⟩
theorem RdB.cellAt {w : World} {ad : Option Addr} {cap : Nat} {bs : List Int} (h : RdB w ad cap bs) {k : Nat} (hk : k < bs.length) : ∃ b off, ad = some ⟨b, off, none⟩ ∧ w.cell? ⟨b, off + k, none⟩ = some (.int .u8 (bs.getD k 0)) ∧ ∀ j, j < bs.length → w.cell? ⟨b, off + j, none⟩ = some (.int .u8 (bs.getD j 0)) := by
  cases ad with
  | none => have := h.nil rfl; omega
  | some a => obtain ⟨b, off, rfl, hc⟩ := h.at_ a rfl (by omega); exact ⟨b, off, rfl, hc k hk, hc⟩
theorem RdB.dropAt {w : World} {b off cap : Nat} {bs : List Int} (h : RdB w (some ⟨b, off, none⟩) cap bs) {k : Nat} (hk : k ≤ bs.length) : RdB w (some ⟨b, off + k, none⟩) (cap - k) (bs.drop k) :=
  ⟨by have := h.le; simp; omega, by have := h.cb; omega, by have := h.big; simp; omega, (fun e => by cases e), fun a ha hl => by
    cases ha
    simp at hl
    obtain ⟨b', off', e, hc⟩ := h.at_ _ rfl (by omega)
    cases e
    refine ⟨b, off + k, rfl, fun j hj => ?_⟩
    have hj' : k + j < bs.length := by simp at hj; omega
    rw [Nat.add_assoc, hc (k + j) hj']
    simp [List.getD_eq_getElem?_getD, List.getElem?_drop], fun x hx => h.isB x (List.mem_of_mem_drop hx)⟩
/-- Four bytes of a tag, and a set's bytes. -/
def fourB (x : Int) : List Int := [x / 16777216 % 256, x / 65536 % 256, x / 256 % 256, x % 256]
def tagsB (l : List Int) : List Int := (l.map fourB).flatten
def codeB (l : List Int) : List Int := (l.length : Int) :: tagsB l
def numB (x0 x1 x2 x3 : Int) : Int := bits BinOp.or IntKind.i64 (bits BinOp.or IntKind.i64 (bits BinOp.or IntKind.i64 (x0 * 16777216) (x1 * 65536)) (x2 * 256)) x3
theorem fourB_is (x : Int) : ∀ y ∈ fourB x, 0 ≤ y ∧ y < 256 := by
  intro y hy
  simp only [fourB, List.mem_cons, List.not_mem_nil, or_false] at hy
  omega
theorem tagsB_len (l : List Int) : (tagsB l).length = 4 * l.length := by
  induction l with
  | nil => rfl
  | cons x l ih => simp only [tagsB, List.map_cons, List.flatten_cons, List.length_append] at ih ⊢; rw [ih]; simp [fourB]; omega
theorem tagsB_snoc (l : List Int) (x : Int) : tagsB (l ++ [x]) = tagsB l ++ fourB x := by simp [tagsB]
theorem codeB_len (l : List Int) : (codeB l).length = 4 * l.length + 1 := by simp [codeB, tagsB_len]
theorem codeB_is (l : List Int) (hl : l.length ≤ 16) : ∀ y ∈ codeB l, 0 ≤ y ∧ y < 256 := by
  intro y hy
  rcases List.mem_cons.1 hy with rfl | hy
  · omega
  · simp only [tagsB, List.mem_flatten, List.mem_map] at hy
    obtain ⟨_, ⟨x, _, rfl⟩, h⟩ := hy
    exact fourB_is x y h
theorem code_step (l : List Int) (k : Nat) (hk : k < l.length) : tagsB (l.take (k + 1)) = tagsB (l.take k) ++ fourB (l.getD k 0) := by
  rw [take_snoc l k hk, tagsB_snoc]
/-- Cells of a block just laid. -/
theorem cells_new (w : World) (L : List Value) (T : TypeId) : ∀ j u, L[j]? = some u → (w.alloc (.cells L.toArray T)).cell? ((⟨w.heap.size, 0, none⟩ : Addr).add j) = some u := by
  intro j u hj
  rw [Go.WideShapes.add_plain, Nat.zero_add, box_cell (heap_alloc_last w (.cells L.toArray T))]
  simpa using hj
end Go.Proofs.Ytdbhppfpalpfmaa
