/- TypesOperators, case by case, part 4. -/
import Derived.Test.YtjiekjfbllinbaaDoorRv
namespace Go.Proofs.YtjiekjfbllinbaaDoor.Rx
open Go
set_option linter.unusedSectionVars false
set_option linter.unusedVariables false
set_option linter.unusedSimpArgs false
set_option maxRecDepth 1000000 in
set_option maxHeartbeats 0 in
theorem k_7_0 : (chk 7 0 0 && chk 7 0 1 && chk 7 0 2 && chk 7 0 3) = true := by kernel_rfl
set_option maxRecDepth 1000000 in
set_option maxHeartbeats 0 in
theorem k_7_1 : (chk 7 1 0 && chk 7 1 1 && chk 7 1 2 && chk 7 1 3) = true := by kernel_rfl
set_option maxRecDepth 1000000 in
set_option maxHeartbeats 0 in
theorem k_7_2 : (chk 7 2 0 && chk 7 2 1 && chk 7 2 2 && chk 7 2 3) = true := by kernel_rfl
set_option maxRecDepth 1000000 in
set_option maxHeartbeats 0 in
theorem k_7_3 : (chk 7 3 0 && chk 7 3 1 && chk 7 3 2 && chk 7 3 3) = true := by kernel_rfl
set_option maxRecDepth 1000000 in
set_option maxHeartbeats 0 in
theorem k_8_0 : (chk 8 0 0 && chk 8 0 1 && chk 8 0 2 && chk 8 0 3) = true := by kernel_rfl
set_option maxRecDepth 1000000 in
set_option maxHeartbeats 0 in
theorem k_8_1 : (chk 8 1 0 && chk 8 1 1 && chk 8 1 2 && chk 8 1 3) = true := by kernel_rfl
set_option maxRecDepth 1000000 in
set_option maxHeartbeats 0 in
theorem k_8_2 : (chk 8 2 0 && chk 8 2 1 && chk 8 2 2 && chk 8 2 3) = true := by kernel_rfl
end Go.Proofs.YtjiekjfbllinbaaDoor.Rx
