/- clocks.Same. -/
import Derived.Test.YtcklccpcajbjeaaCk
namespace Go.Proofs.Ytcklccpcajbjeaa
open Go.ChangeShapes Go.WideShapes Go.ChangeAt Go.RowKit Go.Maps
namespace Tx
set_option linter.unusedVariables false
theorem same_any (B : Nat → Prop) (w : World) (va vb : Value) (l m : Ck) (ha : CkIn B w va l) (hb : CkIn B w vb m) : Calls Try.prog 6 #[va, vb] w (SaysQ w (sameC l m)) := by
  have H := Lib.hid (ceq_any B w va vb l m ha hb)
  clear ha hb
  go_enter Try.func6, Try.ntmps6
  go_wp2_with fail
  refine H.out.mono ?_
  rintro e w1 ⟨rfl, n, rfl⟩
  go_wp2
  go_ret
  exact ⟨rfl, n, rfl⟩
end Tx
end Go.Proofs.Ytcklccpcajbjeaa
