/- The law's kind. -/
import Derived.Test.YtlmfjaaooklhnaaDoorFOdd0
namespace Go.Proofs.YtlmfjaaooklhnaaDoor
open Go.ChangeShapes Go.WideShapes Go.ChangeAt Go.RowKit Go.Extern.Stop Go.Stop Go.Extern
namespace Fk
set_option linter.unusedVariables false
set_option linter.unusedSimpArgs false
theorem kind_fn (z : Int) (h0 : 0 ≤ z) (h1 : z < 256) (w : World) : Calls Tryd.prog 5 #[.int .u8 z] w fun e w' => e = .returned (.int .i64 (1 + z % 12)) ∧ w = w' := by
  go_enter Tryd.func5, Tryd.ntmps5
  go_wp2
  go_ret
  exact ⟨rfl, rfl⟩
end Fk
end Go.Proofs.YtlmfjaaooklhnaaDoor
