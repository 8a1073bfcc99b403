/- TypesOperators, case by case, part 0. -/
import Derived.Test.YtjiekjfbllinbaaDoorRv
namespace Go.Proofs.YtjiekjfbllinbaaDoor.Rx
open Go
set_option linter.unusedSectionVars false
set_option linter.unusedVariables false
set_option linter.unusedSimpArgs false
set_option maxRecDepth 1000000 in
set_option maxHeartbeats 0 in
theorem k_0_0 : (chk 0 0 0 && chk 0 0 1 && chk 0 0 2 && chk 0 0 3) = true := by kernel_rfl
set_option maxRecDepth 1000000 in
set_option maxHeartbeats 0 in
theorem k_0_1 : (chk 0 1 0 && chk 0 1 1 && chk 0 1 2 && chk 0 1 3) = true := by kernel_rfl
set_option maxRecDepth 1000000 in
set_option maxHeartbeats 0 in
theorem k_0_2 : (chk 0 2 0 && chk 0 2 1 && chk 0 2 2 && chk 0 2 3) = true := by kernel_rfl
set_option maxRecDepth 1000000 in
set_option maxHeartbeats 0 in
theorem k_0_3 : (chk 0 3 0 && chk 0 3 1 && chk 0 3 2 && chk 0 3 3) = true := by kernel_rfl
set_option maxRecDepth 1000000 in
set_option maxHeartbeats 0 in
theorem k_1_0 : (chk 1 0 0 && chk 1 0 1 && chk 1 0 2 && chk 1 0 3) = true := by kernel_rfl
set_option maxRecDepth 1000000 in
set_option maxHeartbeats 0 in
theorem k_1_1 : (chk 1 1 0 && chk 1 1 1 && chk 1 1 2 && chk 1 1 3) = true := by kernel_rfl
set_option maxRecDepth 1000000 in
set_option maxHeartbeats 0 in
theorem k_1_2 : (chk 1 2 0 && chk 1 2 1 && chk 1 2 2 && chk 1 2 3) = true := by kernel_rfl
end Go.Proofs.YtjiekjfbllinbaaDoor.Rx
