/- TypesOperators, case by case, part 7. -/
import Derived.Test.YtjiekjfbllinbaaDoorRv
namespace Go.Proofs.YtjiekjfbllinbaaDoor.Rx
open Go
set_option linter.unusedSectionVars false
set_option linter.unusedVariables false
set_option linter.unusedSimpArgs false
set_option maxRecDepth 1000000 in
set_option maxHeartbeats 0 in
theorem k_12_1 : (chk 12 1 0 && chk 12 1 1 && chk 12 1 2 && chk 12 1 3) = true := by kernel_rfl
set_option maxRecDepth 1000000 in
set_option maxHeartbeats 0 in
theorem k_12_2 : (chk 12 2 0 && chk 12 2 1 && chk 12 2 2 && chk 12 2 3) = true := by kernel_rfl
set_option maxRecDepth 1000000 in
set_option maxHeartbeats 0 in
theorem k_12_3 : (chk 12 3 0 && chk 12 3 1 && chk 12 3 2 && chk 12 3 3) = true := by kernel_rfl
set_option maxRecDepth 1000000 in
set_option maxHeartbeats 0 in
theorem k_13_0 : (chk 13 0 0 && chk 13 0 1 && chk 13 0 2 && chk 13 0 3) = true := by kernel_rfl
set_option maxRecDepth 1000000 in
set_option maxHeartbeats 0 in
theorem k_13_1 : (chk 13 1 0 && chk 13 1 1 && chk 13 1 2 && chk 13 1 3) = true := by kernel_rfl
set_option maxRecDepth 1000000 in
set_option maxHeartbeats 0 in
theorem k_13_2 : (chk 13 2 0 && chk 13 2 1 && chk 13 2 2 && chk 13 2 3) = true := by kernel_rfl
set_option maxRecDepth 1000000 in
set_option maxHeartbeats 0 in
theorem k_13_3 : (chk 13 3 0 && chk 13 3 1 && chk 13 3 2 && chk 13 3 3) = true := by kernel_rfl
end Go.Proofs.YtjiekjfbllinbaaDoor.Rx
