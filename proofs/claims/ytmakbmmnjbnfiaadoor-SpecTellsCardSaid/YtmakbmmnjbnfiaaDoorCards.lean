/-
  DERIVED. GIVEN WITH THE SEED: THE CARDS: each row of YtmakbmmnjbnfiaaDoorRows.lean that lists a variable, with what it lists TIED to the program's text (the seventh form; the later family's looks); each row that meets fmt, with fmt's text TOLD by the authors' own Lean function (tested against real Go, not proved from fmt's source: count such statements apart). THE CARD IS WHAT COUNTS. Prove the row's statement (the work); the ties are given (YtmakbmmnjbnfiaaDoorTie.lean); close each card by the builder's one call (the guide's Derived/Test/ToyasCard.lean, 'card_holds'). Laid BY PROGRAM, IN A SANDBOX (cutbox-door.mjs). By AI agents, Wed Nov 11 2026. No macro, syntax, notation, axiom, sorry.
-/
import Derived.Test.YtmakbmmnjbnfiaaDoorRows
import GoSem.ClaimSeven
namespace Go.Proofs.YtmakbmmnjbnfiaaDoor
namespace Rows

/-- THE TIED CARD OF 'lodgerlaw11.SpecTells'. -/
def specTellsCard : Claim7 := { stood := { row := specTellsRow, standIns := [], harness := (true, "b00db3cb3ac8e81c1e92887113d6410c2900212907653b28f4fa06f97bb2c5c8"), looks := false }, kinds := [], alts := [], laidByText := true, laidKinds := [.data], laidTests := true, laidLooks := .later }
def SpecTellsCardSaid : Prop := Claim7.holds Tryd.pinned (.plain (OpenSpec.ofChange specTellsSpec)) specTellsCard

/-- THE TIED CARD OF 'lodgerlaw11.SpecLegal'. -/
def specLegalCard : Claim7 := { stood := { row := specLegalRow, standIns := [], harness := (true, "b00db3cb3ac8e81c1e92887113d6410c2900212907653b28f4fa06f97bb2c5c8"), looks := false }, kinds := [], alts := [], laidByText := true, laidKinds := [.data], laidTests := true, laidLooks := .later }
def SpecLegalCardSaid : Prop := Claim7.holds Tryd.pinned (.plain (OpenSpec.ofChange specLegalSpec)) specLegalCard

/-- THE TIED CARD OF 'lodgerlaw11.SpecBack'. -/
def specBackCard : Claim7 := { stood := { row := specBackRow, standIns := [], harness := (true, "b00db3cb3ac8e81c1e92887113d6410c2900212907653b28f4fa06f97bb2c5c8"), looks := false }, kinds := [], alts := [], laidByText := true, laidKinds := [.data], laidTests := true, laidLooks := .later }
def SpecBackCardSaid : Prop := Claim7.holds Tryd.pinned (.plain (OpenSpec.ofChange specBackSpec)) specBackCard

/-- THE TIED CARD OF 'lodgerlaw11.SpecKeeps'. -/
def specKeepsCard : Claim7 := { stood := { row := specKeepsRow, standIns := [], harness := (true, "b00db3cb3ac8e81c1e92887113d6410c2900212907653b28f4fa06f97bb2c5c8"), looks := false }, kinds := [], alts := [], laidByText := true, laidKinds := [.data], laidTests := true, laidLooks := .later }
def SpecKeepsCardSaid : Prop := Claim7.holds Tryd.pinned (.plain (OpenSpec.ofChange specKeepsSpec)) specKeepsCard

/-- THE TIED CARD OF 'lodgerlaw11.SpecFull'. -/
def specFullCard : Claim7 := { stood := { row := specFullRow, standIns := [], harness := (true, "b00db3cb3ac8e81c1e92887113d6410c2900212907653b28f4fa06f97bb2c5c8"), looks := false }, kinds := [], alts := [], laidByText := true, laidKinds := [.data], laidTests := true, laidLooks := .later }
def SpecFullCardSaid : Prop := Claim7.holds Tryd.pinned (.plain (OpenSpec.ofChange specFullSpec)) specFullCard

/-- THE TIED CARD OF 'lodgerlaw11.SpecWhole'. -/
def specWholeCard : Claim7 := { stood := { row := specWholeRow, standIns := [], harness := (true, "b00db3cb3ac8e81c1e92887113d6410c2900212907653b28f4fa06f97bb2c5c8"), looks := false }, kinds := [], alts := [], laidByText := true, laidKinds := [.data], laidTests := true, laidLooks := .later }
def SpecWholeCardSaid : Prop := Claim7.holds Tryd.pinned (.plain (OpenSpec.ofChange specWholeSpec)) specWholeCard

/-- THE SECOND FORM's CARD OF 'lodgerlaw11.SpecTells'. -/
def specTellsUptoCard : Claim7 := { stood := { row := specTellsUptoRow, standIns := [], harness := (true, "b00db3cb3ac8e81c1e92887113d6410c2900212907653b28f4fa06f97bb2c5c8"), looks := false }, kinds := [], alts := [], laidByText := true, laidKinds := [.data], laidTests := true, laidLooks := .later }
def SpecTellsUptoCardSaid : Prop := Claim7.holds Tryd.pinned (.plain (OpenSpec.upto specTellsSpec)) specTellsUptoCard

/-- THE SECOND FORM's CARD OF 'lodgerlaw11.SpecLegal'. -/
def specLegalUptoCard : Claim7 := { stood := { row := specLegalUptoRow, standIns := [], harness := (true, "b00db3cb3ac8e81c1e92887113d6410c2900212907653b28f4fa06f97bb2c5c8"), looks := false }, kinds := [], alts := [], laidByText := true, laidKinds := [.data], laidTests := true, laidLooks := .later }
def SpecLegalUptoCardSaid : Prop := Claim7.holds Tryd.pinned (.plain (OpenSpec.upto specLegalSpec)) specLegalUptoCard

/-- THE SECOND FORM's CARD OF 'lodgerlaw11.SpecBack'. -/
def specBackUptoCard : Claim7 := { stood := { row := specBackUptoRow, standIns := [], harness := (true, "b00db3cb3ac8e81c1e92887113d6410c2900212907653b28f4fa06f97bb2c5c8"), looks := false }, kinds := [], alts := [], laidByText := true, laidKinds := [.data], laidTests := true, laidLooks := .later }
def SpecBackUptoCardSaid : Prop := Claim7.holds Tryd.pinned (.plain (OpenSpec.upto specBackSpec)) specBackUptoCard

/-- THE SECOND FORM's CARD OF 'lodgerlaw11.SpecKeeps'. -/
def specKeepsUptoCard : Claim7 := { stood := { row := specKeepsUptoRow, standIns := [], harness := (true, "b00db3cb3ac8e81c1e92887113d6410c2900212907653b28f4fa06f97bb2c5c8"), looks := false }, kinds := [], alts := [], laidByText := true, laidKinds := [.data], laidTests := true, laidLooks := .later }
def SpecKeepsUptoCardSaid : Prop := Claim7.holds Tryd.pinned (.plain (OpenSpec.upto specKeepsSpec)) specKeepsUptoCard

/-- THE SECOND FORM's CARD OF 'lodgerlaw11.SpecFull'. -/
def specFullUptoCard : Claim7 := { stood := { row := specFullUptoRow, standIns := [], harness := (true, "b00db3cb3ac8e81c1e92887113d6410c2900212907653b28f4fa06f97bb2c5c8"), looks := false }, kinds := [], alts := [], laidByText := true, laidKinds := [.data], laidTests := true, laidLooks := .later }
def SpecFullUptoCardSaid : Prop := Claim7.holds Tryd.pinned (.plain (OpenSpec.upto specFullSpec)) specFullUptoCard

/-- THE SECOND FORM's CARD OF 'lodgerlaw11.SpecWhole'. -/
def specWholeUptoCard : Claim7 := { stood := { row := specWholeUptoRow, standIns := [], harness := (true, "b00db3cb3ac8e81c1e92887113d6410c2900212907653b28f4fa06f97bb2c5c8"), looks := false }, kinds := [], alts := [], laidByText := true, laidKinds := [.data], laidTests := true, laidLooks := .later }
def SpecWholeUptoCardSaid : Prop := Claim7.holds Tryd.pinned (.plain (OpenSpec.upto specWholeSpec)) specWholeUptoCard
end Rows
end Go.Proofs.YtmakbmmnjbnfiaaDoor
