/-
  No cell of these rows narrows 'for every input' (looked for: loops, veiled, ifaces, maps, wideKeys, modest, calm, conditions, laid).
  DERIVED. THE GIVEN ROWS OF THIS SEAT. 2 by the template 'for every input the law returns true; each argument reads behind the call as it read before'; 0 by the template 'total and deterministic' (their statements: YtmcolabnbchpaabTotals.lean).
  GIVEN WITH THE SEED: the statements are not yours to turn. If you find one false, say at which input.
  Laid BY PROGRAM, IN A SANDBOX (cutbox-rows.mjs): the forced cells as the released guide's own fill.sh prints them over the translation 331595384d5a646e… (all of the seat's roots in one cut). By AI agents, Wed Nov 11 2026. No macro, syntax, notation, axiom, sorry.
-/
import Derived.Test.YtmcolabnbchpaabChecked
import GoSem.Claim
import GoSem.ClaimJoined
import GoSem.ClaimMapViews
import Derived.JoinedTies
import Derived.KernelRfl
namespace Go.Proofs.Ytmcolabnbchpaab
/- THE CELL 'sum', in the pinned program and in every row, IS THE sha256 OF THE DUMP (.gsa) THAT YtmcolabnbchpaabProg.lean LOADS. Nothing in Lean hashes anything: it is a label: what it is worth is what the hold of that sum in a sandbox is worth. -/
noncomputable def Try.pinned : Pinned := { name := "ytmcolabnbchpaab", sum := "331595384d5a646ed8e61305a97358a9d7228926bbd147897bfdfd08fe8d2429", checked := Try.checked }
namespace Rows
def none {H : Type} : Left H := { results := [], args := [] }

/-- 'metronomelaw02.NumsTruths': WHATEVER THE INPUT: true; the input reads as it did. -/
def numsTruthsSpec : ChangeSpec := { name := "numsTruths", fn := fun _ => fun
  | [d1, d2] => { results := [.lit (.bool true)], args := [d1, d2] }
  | _ => none }
def numsTruthsRow : OpenClaim := { program := "ytmcolabnbchpaab", sum := "331595384d5a646ed8e61305a97358a9d7228926bbd147897bfdfd08fe8d2429", func := "metronome/metronomelaw02.NumsTruths", spec := "numsTruths", apart := false }
def NumsTruthsSaid : Prop := numsTruthsRow.holds Try.pinned (OpenSpec.ofChange numsTruthsSpec)

/-- ITS FALSE NEIGHBOUR: 'it returns false'. Refute it at one input. -/
def numsTruthsWrong : ChangeSpec := { name := "numsTruths", fn := fun _ => fun
  | [d1, d2] => { results := [.lit (.bool false)], args := [d1, d2] }
  | _ => none }
def NumsTruthsWrongFalsely : Prop := numsTruthsRow.holds Try.pinned (OpenSpec.ofChange numsTruthsWrong)

/-- 'metronomelaw02.NumsFits': WHATEVER THE INPUT: true; the input reads as it did. -/
def numsFitsSpec : ChangeSpec := { name := "numsFits", fn := fun _ => fun
  | [d1, d2, d3, d4, d5] => { results := [.lit (.bool true)], args := [d1, d2, d3, d4, d5] }
  | _ => none }
def numsFitsRow : OpenClaim := { program := "ytmcolabnbchpaab", sum := "331595384d5a646ed8e61305a97358a9d7228926bbd147897bfdfd08fe8d2429", func := "metronome/metronomelaw02.NumsFits", spec := "numsFits", apart := false }
def NumsFitsSaid : Prop := numsFitsRow.holds Try.pinned (OpenSpec.ofChange numsFitsSpec)

/-- ITS FALSE NEIGHBOUR: 'it returns false'. Refute it at one input. -/
def numsFitsWrong : ChangeSpec := { name := "numsFits", fn := fun _ => fun
  | [d1, d2, d3, d4, d5] => { results := [.lit (.bool false)], args := [d1, d2, d3, d4, d5] }
  | _ => none }
def NumsFitsWrongFalsely : Prop := numsFitsRow.holds Try.pinned (OpenSpec.ofChange numsFitsWrong)

/- THE SECOND FORM. 'bulk': how many values and letters a reading holds, each counted each time it is reached (what is shared counts as often as it is met; a slice's spare places count too). A statement '..UptoSaid' is the law's where the arguments, and the package variables that the reading takes, are together of bulk at most 1048576: NARROWER than '..Said'. Prove '..Said' where nothing that the law and all that it calls make is longer than what came in: it says more and counts as full. Else prove '..UptoSaid'. A law counts once. -/
mutual
def uptoBulk {H : Type} : DataW H → Nat
  | .lit (.string bytes) => bytes.length + 1
  | .lit _ => 1
  | .nil => 1
  | .ptr d => uptoBulk d + 1
  | .slice elems spare => uptoBulkAll elems + uptoBulkAll spare + 1
  | .agg parts => uptoBulkAll parts + 1
  | .iface _ d => uptoBulk d + 1
  | .map entries => uptoBulkEntries entries + 1
  | .held _ => 1
def uptoBulkAll {H : Type} : List (DataW H) → Nat
  | [] => 0
  | d :: r => uptoBulk d + uptoBulkAll r
def uptoBulkEntries {H : Type} : List (Lit × DataW H) → Nat
  | [] => 0
  | x :: r => uptoBulkEntry x + uptoBulkEntries r
def uptoBulkEntry {H : Type} : Lit × DataW H → Nat
  | (.string bytes, d) => bytes.length + uptoBulk d + 1
  | (_, d) => uptoBulk d + 1
 end
def uptoSmall : (H : Type) → List (DataW H) → Bool := fun _ ds => decide (uptoBulkAll ds ≤ 1048576)
def OpenSpec.upto (s : _root_.Go.ChangeSpec) : _root_.Go.OpenSpec := { _root_.Go.OpenSpec.ofChange s with cond := some uptoSmall }

/-- 'metronomelaw02.NumsTruths', WHERE WHAT IT READS IS OF BULK AT MOST 1048576: true; the input reads as it did. -/
def numsTruthsUptoRow : OpenClaim := { program := "ytmcolabnbchpaab", sum := "331595384d5a646ed8e61305a97358a9d7228926bbd147897bfdfd08fe8d2429", func := "metronome/metronomelaw02.NumsTruths", spec := "numsTruths", apart := false, narrowed := true }
def NumsTruthsUptoSaid : Prop := numsTruthsUptoRow.holds Try.pinned (OpenSpec.upto numsTruthsSpec)

/-- 'metronomelaw02.NumsFits', WHERE WHAT IT READS IS OF BULK AT MOST 1048576: true; the input reads as it did. -/
def numsFitsUptoRow : OpenClaim := { program := "ytmcolabnbchpaab", sum := "331595384d5a646ed8e61305a97358a9d7228926bbd147897bfdfd08fe8d2429", func := "metronome/metronomelaw02.NumsFits", spec := "numsFits", apart := false, narrowed := true }
def NumsFitsUptoSaid : Prop := numsFitsUptoRow.holds Try.pinned (OpenSpec.upto numsFitsSpec)

end Rows
end Go.Proofs.Ytmcolabnbchpaab
