/-
  DERIVED. GIVEN WITH THE SEED: THE CARDS: each row of YtlmfjaaooklhnaaDoorRows.lean that lists a variable, with what it lists TIED to the program's text (the seventh form; the later family's looks); each row that meets fmt, with fmt's text TOLD by the authors' own Lean function (tested against real Go, not proved from fmt's source: count such statements apart). THE CARD IS WHAT COUNTS. Prove the row's statement (the work); the ties are given (YtlmfjaaooklhnaaDoorTie.lean); close each card by the builder's one call (the guide's Derived/Test/ToyasCard.lean, 'card_holds'). Laid BY PROGRAM, IN A SANDBOX (cutbox-door.mjs). By AI agents, Wed Nov 11 2026. No macro, syntax, notation, axiom, sorry.
-/
import Derived.Test.YtlmfjaaooklhnaaDoorRows
import GoSem.ClaimSeven
namespace Go.Proofs.YtlmfjaaooklhnaaDoor
namespace Rows

/-- THE TIED CARD OF 'metronomelaw01.FaultsFirst'. -/
def faultsFirstCard : Claim7 := { stood := { row := faultsFirstRow, standIns := [], harness := (true, "9927d1a5c9f454b422d10b92f19241ee32c0a15e533f7d099e5bdbfff1bb1623"), looks := true }, kinds := [], alts := [], laidByText := true, laidKinds := [.handle], laidTests := true, laidLooks := .later }
def FaultsFirstCardSaid : Prop := Claim7.holds Tryd.pinned (.plain (OpenSpec.ofChange faultsFirstSpec)) faultsFirstCard

/-- THE SECOND FORM's CARD OF 'metronomelaw01.FaultsFirst'. -/
def faultsFirstUptoCard : Claim7 := { stood := { row := faultsFirstUptoRow, standIns := [], harness := (true, "9927d1a5c9f454b422d10b92f19241ee32c0a15e533f7d099e5bdbfff1bb1623"), looks := true }, kinds := [], alts := [], laidByText := true, laidKinds := [.handle], laidTests := true, laidLooks := .later }
def FaultsFirstUptoCardSaid : Prop := Claim7.holds Tryd.pinned (.plain (OpenSpec.upto faultsFirstSpec)) faultsFirstUptoCard
end Rows
end Go.Proofs.YtlmfjaaooklhnaaDoor
