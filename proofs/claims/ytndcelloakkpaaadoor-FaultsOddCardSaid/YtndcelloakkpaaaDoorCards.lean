/-
  DERIVED. GIVEN WITH THE SEED: THE CARDS: each row of YtndcelloakkpaaaDoorRows.lean that lists a variable, with what it lists TIED to the program's text (the seventh form; the later family's looks); each row that meets fmt, with fmt's text TOLD by the authors' own Lean function (tested against real Go, not proved from fmt's source: count such statements apart). THE CARD IS WHAT COUNTS. Prove the row's statement (the work); the ties are given (YtndcelloakkpaaaDoorTie.lean); close each card by the builder's one call (the guide's Derived/Test/ToyasCard.lean, 'card_holds'). Laid BY PROGRAM, IN A SANDBOX (cutbox-door.mjs). By AI agents, Wed Nov 11 2026. No macro, syntax, notation, axiom, sorry.
-/
import Derived.Test.YtndcelloakkpaaaDoorRows
import GoSem.ClaimSeven
namespace Go.Proofs.YtndcelloakkpaaaDoor
namespace Rows

/-- THE TIED CARD OF 'metronomelaw01.FaultsTold'. -/
def faultsToldCard : Claim7 := { stood := { row := faultsToldRow, standIns := [], harness := (true, "de7cf2ae1c904fa6cd9d0fa82e6054b59119cce39fcbdc6c41c0e9793c7ebbe0"), looks := true }, kinds := [], alts := [], laidByText := true, laidKinds := [.handle], laidTests := true, laidLooks := .later }
def FaultsToldCardSaid : Prop := Claim7.holds Tryd.pinned (.plain (OpenSpec.ofChange faultsToldSpec)) faultsToldCard

/-- THE TIED CARD OF 'metronomelaw01.FaultsNone'. -/
def faultsNoneCard : Claim7 := { stood := { row := faultsNoneRow, standIns := [], harness := (true, "de7cf2ae1c904fa6cd9d0fa82e6054b59119cce39fcbdc6c41c0e9793c7ebbe0"), looks := true }, kinds := [], alts := [], laidByText := true, laidKinds := [.data, .data, .data, .handle], laidTests := true, laidLooks := .later }
def FaultsNoneCardSaid : Prop := Claim7.holds Tryd.pinned (.plain (OpenSpec.ofChange faultsNoneSpec)) faultsNoneCard

/-- THE TIED CARD OF 'metronomelaw01.FaultsFirst'. -/
def faultsFirstCard : Claim7 := { stood := { row := faultsFirstRow, standIns := [], harness := (true, "de7cf2ae1c904fa6cd9d0fa82e6054b59119cce39fcbdc6c41c0e9793c7ebbe0"), looks := true }, kinds := [], alts := [], laidByText := true, laidKinds := [.handle], laidTests := true, laidLooks := .later }
def FaultsFirstCardSaid : Prop := Claim7.holds Tryd.pinned (.plain (OpenSpec.ofChange faultsFirstSpec)) faultsFirstCard

/-- THE TIED CARD OF 'metronomelaw01.FaultsOdd'. -/
def faultsOddCard : Claim7 := { stood := { row := faultsOddRow, standIns := [], harness := (true, "de7cf2ae1c904fa6cd9d0fa82e6054b59119cce39fcbdc6c41c0e9793c7ebbe0"), looks := true }, kinds := [], alts := [], laidByText := true, laidKinds := [.handle], laidTests := true, laidLooks := .later }
def FaultsOddCardSaid : Prop := Claim7.holds Tryd.pinned (.plain (OpenSpec.ofChange faultsOddSpec)) faultsOddCard

/-- THE SECOND FORM's CARD OF 'metronomelaw01.FaultsTold'. -/
def faultsToldUptoCard : Claim7 := { stood := { row := faultsToldUptoRow, standIns := [], harness := (true, "de7cf2ae1c904fa6cd9d0fa82e6054b59119cce39fcbdc6c41c0e9793c7ebbe0"), looks := true }, kinds := [], alts := [], laidByText := true, laidKinds := [.handle], laidTests := true, laidLooks := .later }
def FaultsToldUptoCardSaid : Prop := Claim7.holds Tryd.pinned (.plain (OpenSpec.upto faultsToldSpec)) faultsToldUptoCard

/-- THE SECOND FORM's CARD OF 'metronomelaw01.FaultsNone'. -/
def faultsNoneUptoCard : Claim7 := { stood := { row := faultsNoneUptoRow, standIns := [], harness := (true, "de7cf2ae1c904fa6cd9d0fa82e6054b59119cce39fcbdc6c41c0e9793c7ebbe0"), looks := true }, kinds := [], alts := [], laidByText := true, laidKinds := [.data, .data, .data, .handle], laidTests := true, laidLooks := .later }
def FaultsNoneUptoCardSaid : Prop := Claim7.holds Tryd.pinned (.plain (OpenSpec.upto faultsNoneSpec)) faultsNoneUptoCard

/-- THE SECOND FORM's CARD OF 'metronomelaw01.FaultsFirst'. -/
def faultsFirstUptoCard : Claim7 := { stood := { row := faultsFirstUptoRow, standIns := [], harness := (true, "de7cf2ae1c904fa6cd9d0fa82e6054b59119cce39fcbdc6c41c0e9793c7ebbe0"), looks := true }, kinds := [], alts := [], laidByText := true, laidKinds := [.handle], laidTests := true, laidLooks := .later }
def FaultsFirstUptoCardSaid : Prop := Claim7.holds Tryd.pinned (.plain (OpenSpec.upto faultsFirstSpec)) faultsFirstUptoCard

/-- THE SECOND FORM's CARD OF 'metronomelaw01.FaultsOdd'. -/
def faultsOddUptoCard : Claim7 := { stood := { row := faultsOddUptoRow, standIns := [], harness := (true, "de7cf2ae1c904fa6cd9d0fa82e6054b59119cce39fcbdc6c41c0e9793c7ebbe0"), looks := true }, kinds := [], alts := [], laidByText := true, laidKinds := [.handle], laidTests := true, laidLooks := .later }
def FaultsOddUptoCardSaid : Prop := Claim7.holds Tryd.pinned (.plain (OpenSpec.upto faultsOddSpec)) faultsOddUptoCard
end Rows
end Go.Proofs.YtndcelloakkpaaaDoor
