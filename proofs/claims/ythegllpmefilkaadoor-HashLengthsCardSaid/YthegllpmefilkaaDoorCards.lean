/-
  DERIVED. GIVEN WITH THE SEED: THE CARDS: each row of YthegllpmefilkaaDoorRows.lean that lists a variable, with what it lists TIED to the program's text (the seventh form; the later family's looks); each row that meets fmt, with fmt's text TOLD by the authors' own Lean function (tested against real Go, not proved from fmt's source: count such statements apart). THE CARD IS WHAT COUNTS. Prove the row's statement (the work); the ties are given (YthegllpmefilkaaDoorTie.lean); close each card by the builder's one call (the guide's Derived/Test/ToyasCard.lean, 'card_holds'). Laid BY PROGRAM, IN A SANDBOX (cutbox-door.mjs). By AI agents, Wed Nov 11 2026. No macro, syntax, notation, axiom, sorry.
-/
import Derived.Test.YthegllpmefilkaaDoorRows
import GoSem.ClaimSeven
namespace Go.Proofs.YthegllpmefilkaaDoor
namespace Rows

/-- THE TIED CARD OF 'lazaretlaw2.HashLengths'. -/
def hashLengthsCard : Claim7 := { stood := { row := hashLengthsRow, standIns := [], harness := (true, "cfc5d02d71876f3d3bbba181ca900e45891549740318c70f7bcd0fdc41fdb033"), looks := false }, kinds := [], alts := [], laidByText := true, laidKinds := [.data], laidTests := true, laidLooks := .later }
def HashLengthsCardSaid : Prop := Claim7.holds Tryd.pinned (.plain (OpenSpec.ofChange hashLengthsSpec)) hashLengthsCard

/-- THE TIED CARD OF 'lazaretlaw2.HashIs'. -/
def hashIsCard : Claim7 := { stood := { row := hashIsRow, standIns := [], harness := (true, "cfc5d02d71876f3d3bbba181ca900e45891549740318c70f7bcd0fdc41fdb033"), looks := false }, kinds := [], alts := [], laidByText := true, laidKinds := [.data], laidTests := true, laidLooks := .later }
def HashIsCardSaid : Prop := Claim7.holds Tryd.pinned (.plain (OpenSpec.ofChange hashIsSpec)) hashIsCard

/-- THE TIED CARD OF 'lazaretlaw2.HashHex'. -/
def hashHexCard : Claim7 := { stood := { row := hashHexRow, standIns := [], harness := (true, "cfc5d02d71876f3d3bbba181ca900e45891549740318c70f7bcd0fdc41fdb033"), looks := false }, kinds := [], alts := [], laidByText := true, laidKinds := [.data], laidTests := true, laidLooks := .later }
def HashHexCardSaid : Prop := Claim7.holds Tryd.pinned (.plain (OpenSpec.ofChange hashHexSpec)) hashHexCard

/-- THE TIED CARD OF 'lazaretlaw2.HashStretch'. -/
def hashStretchCard : Claim7 := { stood := { row := hashStretchRow, standIns := [], harness := (true, "cfc5d02d71876f3d3bbba181ca900e45891549740318c70f7bcd0fdc41fdb033"), looks := false }, kinds := [], alts := [], laidByText := true, laidKinds := [.data], laidTests := true, laidLooks := .later }
def HashStretchCardSaid : Prop := Claim7.holds Tryd.pinned (.plain (OpenSpec.ofChange hashStretchSpec)) hashStretchCard

/-- THE TIED CARD OF 'lazaretlaw2.HashMany'. -/
def hashManyCard : Claim7 := { stood := { row := hashManyRow, standIns := [], harness := (true, "cfc5d02d71876f3d3bbba181ca900e45891549740318c70f7bcd0fdc41fdb033"), looks := false }, kinds := [], alts := [], laidByText := true, laidKinds := [.data], laidTests := true, laidLooks := .later }
def HashManyCardSaid : Prop := Claim7.holds Tryd.pinned (.plain (OpenSpec.ofChange hashManySpec)) hashManyCard

/-- THE SECOND FORM's CARD OF 'lazaretlaw2.HashLengths'. -/
def hashLengthsUptoCard : Claim7 := { stood := { row := hashLengthsUptoRow, standIns := [], harness := (true, "cfc5d02d71876f3d3bbba181ca900e45891549740318c70f7bcd0fdc41fdb033"), looks := false }, kinds := [], alts := [], laidByText := true, laidKinds := [.data], laidTests := true, laidLooks := .later }
def HashLengthsUptoCardSaid : Prop := Claim7.holds Tryd.pinned (.plain (OpenSpec.upto hashLengthsSpec)) hashLengthsUptoCard

/-- THE SECOND FORM's CARD OF 'lazaretlaw2.HashIs'. -/
def hashIsUptoCard : Claim7 := { stood := { row := hashIsUptoRow, standIns := [], harness := (true, "cfc5d02d71876f3d3bbba181ca900e45891549740318c70f7bcd0fdc41fdb033"), looks := false }, kinds := [], alts := [], laidByText := true, laidKinds := [.data], laidTests := true, laidLooks := .later }
def HashIsUptoCardSaid : Prop := Claim7.holds Tryd.pinned (.plain (OpenSpec.upto hashIsSpec)) hashIsUptoCard

/-- THE SECOND FORM's CARD OF 'lazaretlaw2.HashHex'. -/
def hashHexUptoCard : Claim7 := { stood := { row := hashHexUptoRow, standIns := [], harness := (true, "cfc5d02d71876f3d3bbba181ca900e45891549740318c70f7bcd0fdc41fdb033"), looks := false }, kinds := [], alts := [], laidByText := true, laidKinds := [.data], laidTests := true, laidLooks := .later }
def HashHexUptoCardSaid : Prop := Claim7.holds Tryd.pinned (.plain (OpenSpec.upto hashHexSpec)) hashHexUptoCard

/-- THE SECOND FORM's CARD OF 'lazaretlaw2.HashStretch'. -/
def hashStretchUptoCard : Claim7 := { stood := { row := hashStretchUptoRow, standIns := [], harness := (true, "cfc5d02d71876f3d3bbba181ca900e45891549740318c70f7bcd0fdc41fdb033"), looks := false }, kinds := [], alts := [], laidByText := true, laidKinds := [.data], laidTests := true, laidLooks := .later }
def HashStretchUptoCardSaid : Prop := Claim7.holds Tryd.pinned (.plain (OpenSpec.upto hashStretchSpec)) hashStretchUptoCard

/-- THE SECOND FORM's CARD OF 'lazaretlaw2.HashMany'. -/
def hashManyUptoCard : Claim7 := { stood := { row := hashManyUptoRow, standIns := [], harness := (true, "cfc5d02d71876f3d3bbba181ca900e45891549740318c70f7bcd0fdc41fdb033"), looks := false }, kinds := [], alts := [], laidByText := true, laidKinds := [.data], laidTests := true, laidLooks := .later }
def HashManyUptoCardSaid : Prop := Claim7.holds Tryd.pinned (.plain (OpenSpec.upto hashManySpec)) hashManyUptoCard
end Rows
end Go.Proofs.YthegllpmefilkaaDoor
