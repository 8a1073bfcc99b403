/-
  No cell of these rows narrows 'for every input' (looked for: loops, veiled, ifaces, maps, wideKeys, modest, calm, conditions, laid).
  DERIVED. THE GIVEN ROWS OF THIS SEAT. 5 by the template 'for every input the law returns true; each argument reads behind the call as it read before'; 0 by the template 'total and deterministic' (their statements: YtmcolabnbchpaaaTotals.lean).
  GIVEN WITH THE SEED: the statements are not yours to turn. If you find one false, say at which input.
  Laid BY PROGRAM, IN A SANDBOX (cutbox-rows.mjs): the forced cells as the released guide's own fill.sh prints them over the translation fe0635266dfebb5c… (all of the seat's roots in one cut). By AI agents, Wed Nov 11 2026. No macro, syntax, notation, axiom, sorry.
-/
import Derived.Test.YtmcolabnbchpaaaChecked
import GoSem.Claim
import GoSem.ClaimJoined
import GoSem.ClaimMapViews
import Derived.JoinedTies
import Derived.KernelRfl
namespace Go.Proofs.Ytmcolabnbchpaaa
/- THE CELL 'sum', in the pinned program and in every row, IS THE sha256 OF THE DUMP (.gsa) THAT YtmcolabnbchpaaaProg.lean LOADS. Nothing in Lean hashes anything: it is a label: what it is worth is what the hold of that sum in a sandbox is worth. -/
noncomputable def Try.pinned : Pinned := { name := "ytmcolabnbchpaaa", sum := "fe0635266dfebb5c95d5d64d59c074d618e7672ad3f4063e955c21774a8daf36", checked := Try.checked }
namespace Rows
def none {H : Type} : Left H := { results := [], args := [] }

/-- 'metronomelaw02.NumsBin': WHATEVER THE INPUT: true; the input reads as it did. -/
def numsBinSpec : ChangeSpec := { name := "numsBin", fn := fun _ => fun
  | [d1, d2, d3] => { results := [.lit (.bool true)], args := [d1, d2, d3] }
  | _ => none }
def numsBinRow : OpenClaim := { program := "ytmcolabnbchpaaa", sum := "fe0635266dfebb5c95d5d64d59c074d618e7672ad3f4063e955c21774a8daf36", func := "metronome/metronomelaw02.NumsBin", spec := "numsBin", apart := false }
def NumsBinSaid : Prop := numsBinRow.holds Try.pinned (OpenSpec.ofChange numsBinSpec)

/-- ITS FALSE NEIGHBOUR: 'it returns false'. Refute it at one input. -/
def numsBinWrong : ChangeSpec := { name := "numsBin", fn := fun _ => fun
  | [d1, d2, d3] => { results := [.lit (.bool false)], args := [d1, d2, d3] }
  | _ => none }
def NumsBinWrongFalsely : Prop := numsBinRow.holds Try.pinned (OpenSpec.ofChange numsBinWrong)

/-- 'metronomelaw02.NumsUn': WHATEVER THE INPUT: true; the input reads as it did. -/
def numsUnSpec : ChangeSpec := { name := "numsUn", fn := fun _ => fun
  | [d1, d2] => { results := [.lit (.bool true)], args := [d1, d2] }
  | _ => none }
def numsUnRow : OpenClaim := { program := "ytmcolabnbchpaaa", sum := "fe0635266dfebb5c95d5d64d59c074d618e7672ad3f4063e955c21774a8daf36", func := "metronome/metronomelaw02.NumsUn", spec := "numsUn", apart := false }
def NumsUnSaid : Prop := numsUnRow.holds Try.pinned (OpenSpec.ofChange numsUnSpec)

/-- ITS FALSE NEIGHBOUR: 'it returns false'. Refute it at one input. -/
def numsUnWrong : ChangeSpec := { name := "numsUn", fn := fun _ => fun
  | [d1, d2] => { results := [.lit (.bool false)], args := [d1, d2] }
  | _ => none }
def NumsUnWrongFalsely : Prop := numsUnRow.holds Try.pinned (OpenSpec.ofChange numsUnWrong)

/-- 'metronomelaw02.NumsParts': WHATEVER THE INPUT: true; the input reads as it did. -/
def numsPartsSpec : ChangeSpec := { name := "numsParts", fn := fun _ => fun
  | [d1, d2] => { results := [.lit (.bool true)], args := [d1, d2] }
  | _ => none }
def numsPartsRow : OpenClaim := { program := "ytmcolabnbchpaaa", sum := "fe0635266dfebb5c95d5d64d59c074d618e7672ad3f4063e955c21774a8daf36", func := "metronome/metronomelaw02.NumsParts", spec := "numsParts", apart := false }
def NumsPartsSaid : Prop := numsPartsRow.holds Try.pinned (OpenSpec.ofChange numsPartsSpec)

/-- ITS FALSE NEIGHBOUR: 'it returns false'. Refute it at one input. -/
def numsPartsWrong : ChangeSpec := { name := "numsParts", fn := fun _ => fun
  | [d1, d2] => { results := [.lit (.bool false)], args := [d1, d2] }
  | _ => none }
def NumsPartsWrongFalsely : Prop := numsPartsRow.holds Try.pinned (OpenSpec.ofChange numsPartsWrong)

/-- 'metronomelaw02.NumsOrders': WHATEVER THE INPUT: true; the input reads as it did. -/
def numsOrdersSpec : ChangeSpec := { name := "numsOrders", fn := fun _ => fun
  | [d1, d2] => { results := [.lit (.bool true)], args := [d1, d2] }
  | _ => none }
def numsOrdersRow : OpenClaim := { program := "ytmcolabnbchpaaa", sum := "fe0635266dfebb5c95d5d64d59c074d618e7672ad3f4063e955c21774a8daf36", func := "metronome/metronomelaw02.NumsOrders", spec := "numsOrders", apart := false }
def NumsOrdersSaid : Prop := numsOrdersRow.holds Try.pinned (OpenSpec.ofChange numsOrdersSpec)

/-- ITS FALSE NEIGHBOUR: 'it returns false'. Refute it at one input. -/
def numsOrdersWrong : ChangeSpec := { name := "numsOrders", fn := fun _ => fun
  | [d1, d2] => { results := [.lit (.bool false)], args := [d1, d2] }
  | _ => none }
def NumsOrdersWrongFalsely : Prop := numsOrdersRow.holds Try.pinned (OpenSpec.ofChange numsOrdersWrong)

/-- 'metronomelaw02.NumsRings': WHATEVER THE INPUT: true; the input reads as it did. -/
def numsRingsSpec : ChangeSpec := { name := "numsRings", fn := fun _ => fun
  | [d1, d2, d3] => { results := [.lit (.bool true)], args := [d1, d2, d3] }
  | _ => none }
def numsRingsRow : OpenClaim := { program := "ytmcolabnbchpaaa", sum := "fe0635266dfebb5c95d5d64d59c074d618e7672ad3f4063e955c21774a8daf36", func := "metronome/metronomelaw02.NumsRings", spec := "numsRings", apart := false }
def NumsRingsSaid : Prop := numsRingsRow.holds Try.pinned (OpenSpec.ofChange numsRingsSpec)

/-- ITS FALSE NEIGHBOUR: 'it returns false'. Refute it at one input. -/
def numsRingsWrong : ChangeSpec := { name := "numsRings", fn := fun _ => fun
  | [d1, d2, d3] => { results := [.lit (.bool false)], args := [d1, d2, d3] }
  | _ => none }
def NumsRingsWrongFalsely : Prop := numsRingsRow.holds Try.pinned (OpenSpec.ofChange numsRingsWrong)

/- THE SECOND FORM. 'bulk': how many values and letters a reading holds, each counted each time it is reached (what is shared counts as often as it is met; a slice's spare places count too). A statement '..UptoSaid' is the law's where the arguments, and the package variables that the reading takes, are together of bulk at most 1048576: NARROWER than '..Said'. Prove '..Said' where nothing that the law and all that it calls make is longer than what came in: it says more and counts as full. Else prove '..UptoSaid'. A law counts once. -/
mutual
def uptoBulk {H : Type} : DataW H → Nat
  | .lit (.string bytes) => bytes.length + 1
  | .lit _ => 1
  | .nil => 1
  | .ptr d => uptoBulk d + 1
  | .slice elems spare => uptoBulkAll elems + uptoBulkAll spare + 1
  | .agg parts => uptoBulkAll parts + 1
  | .iface _ d => uptoBulk d + 1
  | .map entries => uptoBulkEntries entries + 1
  | .held _ => 1
def uptoBulkAll {H : Type} : List (DataW H) → Nat
  | [] => 0
  | d :: r => uptoBulk d + uptoBulkAll r
def uptoBulkEntries {H : Type} : List (Lit × DataW H) → Nat
  | [] => 0
  | x :: r => uptoBulkEntry x + uptoBulkEntries r
def uptoBulkEntry {H : Type} : Lit × DataW H → Nat
  | (.string bytes, d) => bytes.length + uptoBulk d + 1
  | (_, d) => uptoBulk d + 1
 end
def uptoSmall : (H : Type) → List (DataW H) → Bool := fun _ ds => decide (uptoBulkAll ds ≤ 1048576)
def OpenSpec.upto (s : _root_.Go.ChangeSpec) : _root_.Go.OpenSpec := { _root_.Go.OpenSpec.ofChange s with cond := some uptoSmall }

/-- 'metronomelaw02.NumsBin', WHERE WHAT IT READS IS OF BULK AT MOST 1048576: true; the input reads as it did. -/
def numsBinUptoRow : OpenClaim := { program := "ytmcolabnbchpaaa", sum := "fe0635266dfebb5c95d5d64d59c074d618e7672ad3f4063e955c21774a8daf36", func := "metronome/metronomelaw02.NumsBin", spec := "numsBin", apart := false, narrowed := true }
def NumsBinUptoSaid : Prop := numsBinUptoRow.holds Try.pinned (OpenSpec.upto numsBinSpec)

/-- 'metronomelaw02.NumsUn', WHERE WHAT IT READS IS OF BULK AT MOST 1048576: true; the input reads as it did. -/
def numsUnUptoRow : OpenClaim := { program := "ytmcolabnbchpaaa", sum := "fe0635266dfebb5c95d5d64d59c074d618e7672ad3f4063e955c21774a8daf36", func := "metronome/metronomelaw02.NumsUn", spec := "numsUn", apart := false, narrowed := true }
def NumsUnUptoSaid : Prop := numsUnUptoRow.holds Try.pinned (OpenSpec.upto numsUnSpec)

/-- 'metronomelaw02.NumsParts', WHERE WHAT IT READS IS OF BULK AT MOST 1048576: true; the input reads as it did. -/
def numsPartsUptoRow : OpenClaim := { program := "ytmcolabnbchpaaa", sum := "fe0635266dfebb5c95d5d64d59c074d618e7672ad3f4063e955c21774a8daf36", func := "metronome/metronomelaw02.NumsParts", spec := "numsParts", apart := false, narrowed := true }
def NumsPartsUptoSaid : Prop := numsPartsUptoRow.holds Try.pinned (OpenSpec.upto numsPartsSpec)

/-- 'metronomelaw02.NumsOrders', WHERE WHAT IT READS IS OF BULK AT MOST 1048576: true; the input reads as it did. -/
def numsOrdersUptoRow : OpenClaim := { program := "ytmcolabnbchpaaa", sum := "fe0635266dfebb5c95d5d64d59c074d618e7672ad3f4063e955c21774a8daf36", func := "metronome/metronomelaw02.NumsOrders", spec := "numsOrders", apart := false, narrowed := true }
def NumsOrdersUptoSaid : Prop := numsOrdersUptoRow.holds Try.pinned (OpenSpec.upto numsOrdersSpec)

/-- 'metronomelaw02.NumsRings', WHERE WHAT IT READS IS OF BULK AT MOST 1048576: true; the input reads as it did. -/
def numsRingsUptoRow : OpenClaim := { program := "ytmcolabnbchpaaa", sum := "fe0635266dfebb5c95d5d64d59c074d618e7672ad3f4063e955c21774a8daf36", func := "metronome/metronomelaw02.NumsRings", spec := "numsRings", apart := false, narrowed := true }
def NumsRingsUptoSaid : Prop := numsRingsUptoRow.holds Try.pinned (OpenSpec.upto numsRingsSpec)

end Rows
end Go.Proofs.Ytmcolabnbchpaaa
