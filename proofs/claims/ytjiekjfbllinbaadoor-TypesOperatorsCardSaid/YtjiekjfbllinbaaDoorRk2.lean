/- TypesOperators, case by case, part 2. -/
import Derived.Test.YtjiekjfbllinbaaDoorRv
namespace Go.Proofs.YtjiekjfbllinbaaDoor.Rx
open Go
set_option linter.unusedSectionVars false
set_option linter.unusedVariables false
set_option linter.unusedSimpArgs false
set_option maxRecDepth 1000000 in
set_option maxHeartbeats 0 in
theorem k_3_2 : (chk 3 2 0 && chk 3 2 1 && chk 3 2 2 && chk 3 2 3) = true := by kernel_rfl
set_option maxRecDepth 1000000 in
set_option maxHeartbeats 0 in
theorem k_3_3 : (chk 3 3 0 && chk 3 3 1 && chk 3 3 2 && chk 3 3 3) = true := by kernel_rfl
set_option maxRecDepth 1000000 in
set_option maxHeartbeats 0 in
theorem k_4_0 : (chk 4 0 0 && chk 4 0 1 && chk 4 0 2 && chk 4 0 3) = true := by kernel_rfl
set_option maxRecDepth 1000000 in
set_option maxHeartbeats 0 in
theorem k_4_1 : (chk 4 1 0 && chk 4 1 1 && chk 4 1 2 && chk 4 1 3) = true := by kernel_rfl
set_option maxRecDepth 1000000 in
set_option maxHeartbeats 0 in
theorem k_4_2 : (chk 4 2 0 && chk 4 2 1 && chk 4 2 2 && chk 4 2 3) = true := by kernel_rfl
set_option maxRecDepth 1000000 in
set_option maxHeartbeats 0 in
theorem k_4_3 : (chk 4 3 0 && chk 4 3 1 && chk 4 3 2 && chk 4 3 3) = true := by kernel_rfl
set_option maxRecDepth 1000000 in
set_option maxHeartbeats 0 in
theorem k_5_0 : (chk 5 0 0 && chk 5 0 1 && chk 5 0 2 && chk 5 0 3) = true := by kernel_rfl
end Go.Proofs.YtjiekjfbllinbaaDoor.Rx
