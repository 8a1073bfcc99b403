/- TypesOperators, case by case, part 3. -/
import Derived.Test.YtjiekjfbllinbaaDoorRv
namespace Go.Proofs.YtjiekjfbllinbaaDoor.Rx
open Go
set_option linter.unusedSectionVars false
set_option linter.unusedVariables false
set_option linter.unusedSimpArgs false
set_option maxRecDepth 1000000 in
set_option maxHeartbeats 0 in
theorem k_5_1 : (chk 5 1 0 && chk 5 1 1 && chk 5 1 2 && chk 5 1 3) = true := by kernel_rfl
set_option maxRecDepth 1000000 in
set_option maxHeartbeats 0 in
theorem k_5_2 : (chk 5 2 0 && chk 5 2 1 && chk 5 2 2 && chk 5 2 3) = true := by kernel_rfl
set_option maxRecDepth 1000000 in
set_option maxHeartbeats 0 in
theorem k_5_3 : (chk 5 3 0 && chk 5 3 1 && chk 5 3 2 && chk 5 3 3) = true := by kernel_rfl
set_option maxRecDepth 1000000 in
set_option maxHeartbeats 0 in
theorem k_6_0 : (chk 6 0 0 && chk 6 0 1 && chk 6 0 2 && chk 6 0 3) = true := by kernel_rfl
set_option maxRecDepth 1000000 in
set_option maxHeartbeats 0 in
theorem k_6_1 : (chk 6 1 0 && chk 6 1 1 && chk 6 1 2 && chk 6 1 3) = true := by kernel_rfl
set_option maxRecDepth 1000000 in
set_option maxHeartbeats 0 in
theorem k_6_2 : (chk 6 2 0 && chk 6 2 1 && chk 6 2 2 && chk 6 2 3) = true := by kernel_rfl
set_option maxRecDepth 1000000 in
set_option maxHeartbeats 0 in
theorem k_6_3 : (chk 6 3 0 && chk 6 3 1 && chk 6 3 2 && chk 6 3 3) = true := by kernel_rfl
end Go.Proofs.YtjiekjfbllinbaaDoor.Rx
