/- TypesOperators, case by case, part 1. -/
import Derived.Test.YtjiekjfbllinbaaDoorRv
namespace Go.Proofs.YtjiekjfbllinbaaDoor.Rx
open Go
set_option linter.unusedSectionVars false
set_option linter.unusedVariables false
set_option linter.unusedSimpArgs false
set_option maxRecDepth 1000000 in
set_option maxHeartbeats 0 in
theorem k_1_3 : (chk 1 3 0 && chk 1 3 1 && chk 1 3 2 && chk 1 3 3) = true := by kernel_rfl
set_option maxRecDepth 1000000 in
set_option maxHeartbeats 0 in
theorem k_2_0 : (chk 2 0 0 && chk 2 0 1 && chk 2 0 2 && chk 2 0 3) = true := by kernel_rfl
set_option maxRecDepth 1000000 in
set_option maxHeartbeats 0 in
theorem k_2_1 : (chk 2 1 0 && chk 2 1 1 && chk 2 1 2 && chk 2 1 3) = true := by kernel_rfl
set_option maxRecDepth 1000000 in
set_option maxHeartbeats 0 in
theorem k_2_2 : (chk 2 2 0 && chk 2 2 1 && chk 2 2 2 && chk 2 2 3) = true := by kernel_rfl
set_option maxRecDepth 1000000 in
set_option maxHeartbeats 0 in
theorem k_2_3 : (chk 2 3 0 && chk 2 3 1 && chk 2 3 2 && chk 2 3 3) = true := by kernel_rfl
set_option maxRecDepth 1000000 in
set_option maxHeartbeats 0 in
theorem k_3_0 : (chk 3 0 0 && chk 3 0 1 && chk 3 0 2 && chk 3 0 3) = true := by kernel_rfl
set_option maxRecDepth 1000000 in
set_option maxHeartbeats 0 in
theorem k_3_1 : (chk 3 1 0 && chk 3 1 1 && chk 3 1 2 && chk 3 1 3) = true := by kernel_rfl
end Go.Proofs.YtjiekjfbllinbaaDoor.Rx
