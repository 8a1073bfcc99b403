/- TypesOperators, case by case, part 6. -/
import Derived.Test.YtjiekjfbllinbaaDoorRv
namespace Go.Proofs.YtjiekjfbllinbaaDoor.Rx
open Go
set_option linter.unusedSectionVars false
set_option linter.unusedVariables false
set_option linter.unusedSimpArgs false
set_option maxRecDepth 1000000 in
set_option maxHeartbeats 0 in
theorem k_10_2 : (chk 10 2 0 && chk 10 2 1 && chk 10 2 2 && chk 10 2 3) = true := by kernel_rfl
set_option maxRecDepth 1000000 in
set_option maxHeartbeats 0 in
theorem k_10_3 : (chk 10 3 0 && chk 10 3 1 && chk 10 3 2 && chk 10 3 3) = true := by kernel_rfl
set_option maxRecDepth 1000000 in
set_option maxHeartbeats 0 in
theorem k_11_0 : (chk 11 0 0 && chk 11 0 1 && chk 11 0 2 && chk 11 0 3) = true := by kernel_rfl
set_option maxRecDepth 1000000 in
set_option maxHeartbeats 0 in
theorem k_11_1 : (chk 11 1 0 && chk 11 1 1 && chk 11 1 2 && chk 11 1 3) = true := by kernel_rfl
set_option maxRecDepth 1000000 in
set_option maxHeartbeats 0 in
theorem k_11_2 : (chk 11 2 0 && chk 11 2 1 && chk 11 2 2 && chk 11 2 3) = true := by kernel_rfl
set_option maxRecDepth 1000000 in
set_option maxHeartbeats 0 in
theorem k_11_3 : (chk 11 3 0 && chk 11 3 1 && chk 11 3 2 && chk 11 3 3) = true := by kernel_rfl
set_option maxRecDepth 1000000 in
set_option maxHeartbeats 0 in
theorem k_12_0 : (chk 12 0 0 && chk 12 0 1 && chk 12 0 2 && chk 12 0 3) = true := by kernel_rfl
end Go.Proofs.YtjiekjfbllinbaaDoor.Rx
