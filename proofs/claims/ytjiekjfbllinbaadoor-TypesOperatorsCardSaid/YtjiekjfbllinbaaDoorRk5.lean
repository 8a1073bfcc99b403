/- TypesOperators, case by case, part 5. -/
import Derived.Test.YtjiekjfbllinbaaDoorRv
namespace Go.Proofs.YtjiekjfbllinbaaDoor.Rx
open Go
set_option linter.unusedSectionVars false
set_option linter.unusedVariables false
set_option linter.unusedSimpArgs false
set_option maxRecDepth 1000000 in
set_option maxHeartbeats 0 in
theorem k_8_3 : (chk 8 3 0 && chk 8 3 1 && chk 8 3 2 && chk 8 3 3) = true := by kernel_rfl
set_option maxRecDepth 1000000 in
set_option maxHeartbeats 0 in
theorem k_9_0 : (chk 9 0 0 && chk 9 0 1 && chk 9 0 2 && chk 9 0 3) = true := by kernel_rfl
set_option maxRecDepth 1000000 in
set_option maxHeartbeats 0 in
theorem k_9_1 : (chk 9 1 0 && chk 9 1 1 && chk 9 1 2 && chk 9 1 3) = true := by kernel_rfl
set_option maxRecDepth 1000000 in
set_option maxHeartbeats 0 in
theorem k_9_2 : (chk 9 2 0 && chk 9 2 1 && chk 9 2 2 && chk 9 2 3) = true := by kernel_rfl
set_option maxRecDepth 1000000 in
set_option maxHeartbeats 0 in
theorem k_9_3 : (chk 9 3 0 && chk 9 3 1 && chk 9 3 2 && chk 9 3 3) = true := by kernel_rfl
set_option maxRecDepth 1000000 in
set_option maxHeartbeats 0 in
theorem k_10_0 : (chk 10 0 0 && chk 10 0 1 && chk 10 0 2 && chk 10 0 3) = true := by kernel_rfl
set_option maxRecDepth 1000000 in
set_option maxHeartbeats 0 in
theorem k_10_1 : (chk 10 1 0 && chk 10 1 1 && chk 10 1 2 && chk 10 1 3) = true := by kernel_rfl
end Go.Proofs.YtjiekjfbllinbaaDoor.Rx
