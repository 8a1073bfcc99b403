/- The law's awake. -/
import Derived.Test.YtcklccpcajbjeaaRr
namespace Go.Proofs.Ytcklccpcajbjeaa.Rx
open Go
set_option maxRecDepth 1000000 in
set_option maxHeartbeats 0 in
theorem awake_any (W : World) : Calls Try.prog 5 #[] W fun e w' => e = .returned (.bool true) ∧ RowKit.Below W.heap.size W w' :=
  closed (P := Try.prog) (O := kindO) (n := 100000) (next := 0 + 5) (by kernel_rfl) kindO_sound (by kernel_rfl) W
end Go.Proofs.Ytcklccpcajbjeaa.Rx
