/-
  The table of the rounds' words, as the rows list it.
-/
import Derived.Test.YthegllpmefilkaaDoorRows
import Derived.Test.YthegllpmefilkaaDoorShaMix
import Derived.ProofKit
import Derived.Deep.DeepHandedRow
import Derived.Lib.LaidTab
namespace Go.Proofs.YthegllpmefilkaaDoor.tab
open Go.RowKit
theorem own : ownKnob Tryd.prog.godebug = none := by kernel_rfl
theorem gTab : Tryd.prog.globalNamed "lazaret/hash.additions" = some 0 := by kernel_rfl
theorem gTabType : (Tryd.prog.globals[0]?).map (·.type) = some 51 := by kernel_rfl
theorem cells51 : Tryd.prog.cellsOf 51 = 64 := by kernel_rfl
theorem cells34 : Tryd.prog.cellsOf 34 = 1 := by kernel_rfl
theorem table {W : World} (h : laidMetH Tryd.prog [("lazaret/hash.additions", Rows.laid_lazaret_hash_additions)] W) : Lib.TabIs Tryd.prog W "lazaret/hash.additions" .u32 tabK :=
  Lib.tabIs_of_head (rest := []) gTab gTabType Tryd.underlying51 Tryd.underlying34 cells34 cells51 h
theorem tabAt {W : World} (h : laidMetH Tryd.prog [("lazaret/hash.additions", Rows.laid_lazaret_hash_additions)] W) : TabAt W := fun i hi => (table h).cell gTab i hi
/-- A world in which the table holds what its initialiser lays. -/
noncomputable def laidWorld (os : Os) : World :=
  { World.holding Tryd.prog os ⟨#[], #[], []⟩ with heap := (World.holding Tryd.prog os ⟨#[], #[], []⟩).heap.modify 0 fun
      | .cells _ t frozen => .cells (wv tabK) t frozen
      | o => o }
end Go.Proofs.YthegllpmefilkaaDoor.tab
