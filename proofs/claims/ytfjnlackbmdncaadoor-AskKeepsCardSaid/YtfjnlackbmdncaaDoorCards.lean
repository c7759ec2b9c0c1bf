/-
  DERIVED. GIVEN WITH THE SEED: THE CARDS: each row of YtfjnlackbmdncaaDoorRows.lean that lists a variable, with what it lists TIED to the program's text (the seventh form; the later family's looks); each row that meets fmt, with fmt's text TOLD by the authors' own Lean function (tested against real Go, not proved from fmt's source: count such statements apart). THE CARD IS WHAT COUNTS. Prove the row's statement (the work); the ties are given (YtfjnlackbmdncaaDoorTie.lean); close each card by the builder's one call (the guide's Derived/Test/ToyasCard.lean, 'card_holds'). Laid BY PROGRAM, IN A SANDBOX (cutbox-door.mjs). By AI agents, Wed Nov 11 2026. No macro, syntax, notation, axiom, sorry.
-/
import Derived.Test.YtfjnlackbmdncaaDoorRows
import GoSem.ClaimSeven
namespace Go.Proofs.YtfjnlackbmdncaaDoor
namespace Rows

/-- THE TIED CARD OF 'lodgerlaw10.AskChecks'. -/
def askChecksCard : Claim7 := { stood := { row := askChecksRow, standIns := [], harness := (true, "2c4c5a96efe9904fd8a22cb4c93fb8c40ba8f74f278ee745484e8d3aed5641c0"), looks := false }, kinds := [], alts := [], laidByText := true, laidKinds := [.data], laidTests := true, laidLooks := .later }
def AskChecksCardSaid : Prop := Claim7.holds Tryd.pinned (.plain (OpenSpec.ofChange askChecksSpec)) askChecksCard

/-- THE TIED CARD OF 'lodgerlaw10.AskFirst'. -/
def askFirstCard : Claim7 := { stood := { row := askFirstRow, standIns := [], harness := (true, "2c4c5a96efe9904fd8a22cb4c93fb8c40ba8f74f278ee745484e8d3aed5641c0"), looks := false }, kinds := [], alts := [], laidByText := true, laidKinds := [.data], laidTests := true, laidLooks := .later }
def AskFirstCardSaid : Prop := Claim7.holds Tryd.pinned (.plain (OpenSpec.ofChange askFirstSpec)) askFirstCard

/-- THE TIED CARD OF 'lodgerlaw10.AskOthers'. -/
def askOthersCard : Claim7 := { stood := { row := askOthersRow, standIns := [], harness := (true, "2c4c5a96efe9904fd8a22cb4c93fb8c40ba8f74f278ee745484e8d3aed5641c0"), looks := false }, kinds := [], alts := [], laidByText := true, laidKinds := [.data], laidTests := true, laidLooks := .later }
def AskOthersCardSaid : Prop := Claim7.holds Tryd.pinned (.plain (OpenSpec.ofChange askOthersSpec)) askOthersCard

/-- THE TIED CARD OF 'lodgerlaw10.AskKeeps'. -/
def askKeepsCard : Claim7 := { stood := { row := askKeepsRow, standIns := [], harness := (true, "2c4c5a96efe9904fd8a22cb4c93fb8c40ba8f74f278ee745484e8d3aed5641c0"), looks := false }, kinds := [], alts := [], laidByText := true, laidKinds := [.data], laidTests := true, laidLooks := .later }
def AskKeepsCardSaid : Prop := Claim7.holds Tryd.pinned (.plain (OpenSpec.ofChange askKeepsSpec)) askKeepsCard

/-- THE TIED CARD OF 'lodgerlaw10.AskOne'. -/
def askOneCard : Claim7 := { stood := { row := askOneRow, standIns := [], harness := (true, "2c4c5a96efe9904fd8a22cb4c93fb8c40ba8f74f278ee745484e8d3aed5641c0"), looks := false }, kinds := [], alts := [], laidByText := true, laidKinds := [.data], laidTests := true, laidLooks := .later }
def AskOneCardSaid : Prop := Claim7.holds Tryd.pinned (.plain (OpenSpec.ofChange askOneSpec)) askOneCard

/-- THE SECOND FORM's CARD OF 'lodgerlaw10.AskChecks'. -/
def askChecksUptoCard : Claim7 := { stood := { row := askChecksUptoRow, standIns := [], harness := (true, "2c4c5a96efe9904fd8a22cb4c93fb8c40ba8f74f278ee745484e8d3aed5641c0"), looks := false }, kinds := [], alts := [], laidByText := true, laidKinds := [.data], laidTests := true, laidLooks := .later }
def AskChecksUptoCardSaid : Prop := Claim7.holds Tryd.pinned (.plain (OpenSpec.upto askChecksSpec)) askChecksUptoCard

/-- THE SECOND FORM's CARD OF 'lodgerlaw10.AskFirst'. -/
def askFirstUptoCard : Claim7 := { stood := { row := askFirstUptoRow, standIns := [], harness := (true, "2c4c5a96efe9904fd8a22cb4c93fb8c40ba8f74f278ee745484e8d3aed5641c0"), looks := false }, kinds := [], alts := [], laidByText := true, laidKinds := [.data], laidTests := true, laidLooks := .later }
def AskFirstUptoCardSaid : Prop := Claim7.holds Tryd.pinned (.plain (OpenSpec.upto askFirstSpec)) askFirstUptoCard

/-- THE SECOND FORM's CARD OF 'lodgerlaw10.AskOthers'. -/
def askOthersUptoCard : Claim7 := { stood := { row := askOthersUptoRow, standIns := [], harness := (true, "2c4c5a96efe9904fd8a22cb4c93fb8c40ba8f74f278ee745484e8d3aed5641c0"), looks := false }, kinds := [], alts := [], laidByText := true, laidKinds := [.data], laidTests := true, laidLooks := .later }
def AskOthersUptoCardSaid : Prop := Claim7.holds Tryd.pinned (.plain (OpenSpec.upto askOthersSpec)) askOthersUptoCard

/-- THE SECOND FORM's CARD OF 'lodgerlaw10.AskKeeps'. -/
def askKeepsUptoCard : Claim7 := { stood := { row := askKeepsUptoRow, standIns := [], harness := (true, "2c4c5a96efe9904fd8a22cb4c93fb8c40ba8f74f278ee745484e8d3aed5641c0"), looks := false }, kinds := [], alts := [], laidByText := true, laidKinds := [.data], laidTests := true, laidLooks := .later }
def AskKeepsUptoCardSaid : Prop := Claim7.holds Tryd.pinned (.plain (OpenSpec.upto askKeepsSpec)) askKeepsUptoCard

/-- THE SECOND FORM's CARD OF 'lodgerlaw10.AskOne'. -/
def askOneUptoCard : Claim7 := { stood := { row := askOneUptoRow, standIns := [], harness := (true, "2c4c5a96efe9904fd8a22cb4c93fb8c40ba8f74f278ee745484e8d3aed5641c0"), looks := false }, kinds := [], alts := [], laidByText := true, laidKinds := [.data], laidTests := true, laidLooks := .later }
def AskOneUptoCardSaid : Prop := Claim7.holds Tryd.pinned (.plain (OpenSpec.upto askOneSpec)) askOneUptoCard
end Rows
end Go.Proofs.YtfjnlackbmdncaaDoor
