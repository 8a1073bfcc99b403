/- What nums.Un answers. -/
import Derived.Test.YtmcolabnbchpaabNumsBin
import Derived.WalkKit
import Derived.ProofKit
import Derived.OpenShut
import Derived.Lib.Hide
namespace Go.Proofs.Ytmcolabnbchpaab
open Go.ChangeShapes Go.WideShapes Go.ChangeAt Go.RowKit

def unI (op a : Int) : Int := if op == 1 then truthI (a == 0) else if op == 2 then wrap32 (-a) else 0

theorem un_any (op a : Int) (w : World) :
    Calls Try.prog 5 #[.int .u8 op, .int .i32 a] w fun e w' => e = .returned (.int .i32 (unI op a)) ∧ w = w' := by
  go_enter Try.func5, Try.ntmps5
  go_wp2_with (go_at_call 10; refine (truth_any _ _).mono ?_; rintro e w' ⟨rfl, rfl⟩)
  all_goals go_ret
  all_goals refine ⟨ret_int ?_, rfl⟩
  all_goals simp [unI, *]

end Go.Proofs.Ytmcolabnbchpaab
