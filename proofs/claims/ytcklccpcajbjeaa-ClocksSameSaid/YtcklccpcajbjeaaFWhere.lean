/- What Where does with each error that it comes to. -/
import Derived.Test.YtcklccpcajbjeaaFVisit
import Derived.LaidEqlPtr
namespace Go.Proofs.Ytcklccpcajbjeaa
open Go.ChangeShapes Go.WideShapes Go.ChangeAt Go.RowKit Go.Extern.Stop Go.Stop Go.Extern
namespace Fk
set_option linter.unusedVariables false
set_option linter.unusedSimpArgs false

/-- Behind a stop nothing is left. -/
structure Stopped (w : World) (b : Nat) : Prop where
  c0 : w.cell? ⟨b, 0, none⟩ = some (.slice none 0 0)
set_option maxRecDepth 100000 in
theorem goesOn_stopped {w : World} {b : Nat} (h : Stopped w b) :
    Calls Try.prog 37 #[.pointer (some ⟨b, 0, none⟩)] w fun e w' => e = .returned (.bool false) ∧ w = w' := by
  have c0 := h.c0
  go_enter Try.func37, Try.ntmps37
  go_wp2
  go_ret
  exact ⟨rfl, rfl⟩
end Fk
end Go.Proofs.Ytcklccpcajbjeaa
