/-
  DERIVED. GIVEN WITH THE SEED: THE CARDS: each row of YtfhefofkhmkcnaaGreatDoorRows.lean that lists a variable, with what it lists TIED to the program's text (the seventh form; the later family's looks); each row that meets fmt, with fmt's text TOLD by the authors' own Lean function (tested against real Go, not proved from fmt's source: count such statements apart). THE CARD IS WHAT COUNTS. Prove the row's statement (the work); the ties are given (YtfhefofkhmkcnaaGreatDoorTie.lean); close each card by the builder's one call (the guide's Derived/Test/ToyasCard.lean, 'card_holds'). Laid BY PROGRAM, IN A SANDBOX (cutbox-door.mjs). By AI agents, Wed Nov 11 2026. No macro, syntax, notation, axiom, sorry.
-/
import Derived.Test.YtfhefofkhmkcnaaGreatDoorRows
import GoSem.ClaimSeven
namespace Go.Proofs.YtfhefofkhmkcnaaGreatDoor
namespace Rows

/-- THE TIED CARD OF 'lodgerlaw21.PoolOne'. -/
def poolOneCard : Claim7 := { stood := { row := poolOneRow, standIns := [], harness := (true, "db3ceb2890fb9e92b4785099fcc56a5c33ec1c8a3068167c2052ed145ca4761f"), looks := false }, kinds := [], alts := [], laidByText := true, laidKinds := [.data], laidTests := true, laidLooks := .later }
def PoolOneCardSaid : Prop := Claim7.holds Tryz.pinned (.plain (OpenSpec.ofChange poolOneSpec)) poolOneCard

/-- THE TIED CARD OF 'lodgerlaw21.PoolAlone'. -/
def poolAloneCard : Claim7 := { stood := { row := poolAloneRow, standIns := [], harness := (true, "db3ceb2890fb9e92b4785099fcc56a5c33ec1c8a3068167c2052ed145ca4761f"), looks := false }, kinds := [], alts := [], laidByText := true, laidKinds := [.data], laidTests := true, laidLooks := .later }
def PoolAloneCardSaid : Prop := Claim7.holds Tryz.pinned (.plain (OpenSpec.ofChange poolAloneSpec)) poolAloneCard

/-- THE TIED CARD OF 'lodgerlaw21.PoolMost'. -/
def poolMostCard : Claim7 := { stood := { row := poolMostRow, standIns := [], harness := (true, "db3ceb2890fb9e92b4785099fcc56a5c33ec1c8a3068167c2052ed145ca4761f"), looks := false }, kinds := [], alts := [], laidByText := true, laidKinds := [.data], laidTests := true, laidLooks := .later }
def PoolMostCardSaid : Prop := Claim7.holds Tryz.pinned (.plain (OpenSpec.ofChange poolMostSpec)) poolMostCard

/-- THE TIED CARD OF 'lodgerlaw21.PoolTold'. -/
def poolToldCard : Claim7 := { stood := { row := poolToldRow, standIns := [], harness := (true, "db3ceb2890fb9e92b4785099fcc56a5c33ec1c8a3068167c2052ed145ca4761f"), looks := false }, kinds := [], alts := [], laidByText := true, laidKinds := [.data], laidTests := true, laidLooks := .later }
def PoolToldCardSaid : Prop := Claim7.holds Tryz.pinned (.plain (OpenSpec.ofChange poolToldSpec)) poolToldCard

/-- THE SECOND FORM's CARD OF 'lodgerlaw21.PoolOne'. -/
def poolOneUptoCard : Claim7 := { stood := { row := poolOneUptoRow, standIns := [], harness := (true, "db3ceb2890fb9e92b4785099fcc56a5c33ec1c8a3068167c2052ed145ca4761f"), looks := false }, kinds := [], alts := [], laidByText := true, laidKinds := [.data], laidTests := true, laidLooks := .later }
def PoolOneUptoCardSaid : Prop := Claim7.holds Tryz.pinned (.plain (OpenSpec.upto poolOneSpec)) poolOneUptoCard

/-- THE SECOND FORM's CARD OF 'lodgerlaw21.PoolAlone'. -/
def poolAloneUptoCard : Claim7 := { stood := { row := poolAloneUptoRow, standIns := [], harness := (true, "db3ceb2890fb9e92b4785099fcc56a5c33ec1c8a3068167c2052ed145ca4761f"), looks := false }, kinds := [], alts := [], laidByText := true, laidKinds := [.data], laidTests := true, laidLooks := .later }
def PoolAloneUptoCardSaid : Prop := Claim7.holds Tryz.pinned (.plain (OpenSpec.upto poolAloneSpec)) poolAloneUptoCard

/-- THE SECOND FORM's CARD OF 'lodgerlaw21.PoolMost'. -/
def poolMostUptoCard : Claim7 := { stood := { row := poolMostUptoRow, standIns := [], harness := (true, "db3ceb2890fb9e92b4785099fcc56a5c33ec1c8a3068167c2052ed145ca4761f"), looks := false }, kinds := [], alts := [], laidByText := true, laidKinds := [.data], laidTests := true, laidLooks := .later }
def PoolMostUptoCardSaid : Prop := Claim7.holds Tryz.pinned (.plain (OpenSpec.upto poolMostSpec)) poolMostUptoCard

/-- THE SECOND FORM's CARD OF 'lodgerlaw21.PoolTold'. -/
def poolToldUptoCard : Claim7 := { stood := { row := poolToldUptoRow, standIns := [], harness := (true, "db3ceb2890fb9e92b4785099fcc56a5c33ec1c8a3068167c2052ed145ca4761f"), looks := false }, kinds := [], alts := [], laidByText := true, laidKinds := [.data], laidTests := true, laidLooks := .later }
def PoolToldUptoCardSaid : Prop := Claim7.holds Tryz.pinned (.plain (OpenSpec.upto poolToldSpec)) poolToldUptoCard
end Rows
end Go.Proofs.YtfhefofkhmkcnaaGreatDoor
