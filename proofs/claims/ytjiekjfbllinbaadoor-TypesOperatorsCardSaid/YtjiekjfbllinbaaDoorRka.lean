/- TypesOperators, in every case. -/
import Derived.Test.YtjiekjfbllinbaaDoorRk0
import Derived.Test.YtjiekjfbllinbaaDoorRk1
import Derived.Test.YtjiekjfbllinbaaDoorRk2
import Derived.Test.YtjiekjfbllinbaaDoorRk3
import Derived.Test.YtjiekjfbllinbaaDoorRk4
import Derived.Test.YtjiekjfbllinbaaDoorRk5
import Derived.Test.YtjiekjfbllinbaaDoorRk6
import Derived.Test.YtjiekjfbllinbaaDoorRk7
namespace Go.Proofs.YtjiekjfbllinbaaDoor.Rx
open Go
set_option linter.unusedSectionVars false
set_option linter.unusedVariables false
set_option linter.unusedSimpArgs false
theorem k4 {c a b : Int} (h : (chk c a 0 && chk c a 1 && chk c a 2 && chk c a 3) = true) (h0 : 0 ≤ b) (h1 : b < 4) : chk c a b = true := by
  simp only [Bool.and_eq_true] at h
  obtain ⟨⟨⟨h2, h3⟩, h4⟩, h5⟩ := h
  rcases (by omega : b = 0 ∨ b = 1 ∨ b = 2 ∨ b = 3) with rfl | rfl | rfl | rfl
  · exact h2
  · exact h3
  · exact h4
  · exact h5
theorem chk_all (c a b : Int) (h0 : 0 ≤ c) (h1 : c < 14) (h2 : 0 ≤ a) (h3 : a < 4) (h4 : 0 ≤ b) (h5 : b < 4) : chk c a b = true := by
  rcases (by omega : c = 0 ∨ c = 1 ∨ c = 2 ∨ c = 3 ∨ c = 4 ∨ c = 5 ∨ c = 6 ∨ c = 7 ∨ c = 8 ∨ c = 9 ∨ c = 10 ∨ c = 11 ∨ c = 12 ∨ c = 13) with rfl | rfl | rfl | rfl | rfl | rfl | rfl | rfl | rfl | rfl | rfl | rfl | rfl | rfl
  · rcases (by omega : a = 0 ∨ a = 1 ∨ a = 2 ∨ a = 3) with rfl | rfl | rfl | rfl
    · exact k4 k_0_0 h4 h5
    · exact k4 k_0_1 h4 h5
    · exact k4 k_0_2 h4 h5
    · exact k4 k_0_3 h4 h5
  · rcases (by omega : a = 0 ∨ a = 1 ∨ a = 2 ∨ a = 3) with rfl | rfl | rfl | rfl
    · exact k4 k_1_0 h4 h5
    · exact k4 k_1_1 h4 h5
    · exact k4 k_1_2 h4 h5
    · exact k4 k_1_3 h4 h5
  · rcases (by omega : a = 0 ∨ a = 1 ∨ a = 2 ∨ a = 3) with rfl | rfl | rfl | rfl
    · exact k4 k_2_0 h4 h5
    · exact k4 k_2_1 h4 h5
    · exact k4 k_2_2 h4 h5
    · exact k4 k_2_3 h4 h5
  · rcases (by omega : a = 0 ∨ a = 1 ∨ a = 2 ∨ a = 3) with rfl | rfl | rfl | rfl
    · exact k4 k_3_0 h4 h5
    · exact k4 k_3_1 h4 h5
    · exact k4 k_3_2 h4 h5
    · exact k4 k_3_3 h4 h5
  · rcases (by omega : a = 0 ∨ a = 1 ∨ a = 2 ∨ a = 3) with rfl | rfl | rfl | rfl
    · exact k4 k_4_0 h4 h5
    · exact k4 k_4_1 h4 h5
    · exact k4 k_4_2 h4 h5
    · exact k4 k_4_3 h4 h5
  · rcases (by omega : a = 0 ∨ a = 1 ∨ a = 2 ∨ a = 3) with rfl | rfl | rfl | rfl
    · exact k4 k_5_0 h4 h5
    · exact k4 k_5_1 h4 h5
    · exact k4 k_5_2 h4 h5
    · exact k4 k_5_3 h4 h5
  · rcases (by omega : a = 0 ∨ a = 1 ∨ a = 2 ∨ a = 3) with rfl | rfl | rfl | rfl
    · exact k4 k_6_0 h4 h5
    · exact k4 k_6_1 h4 h5
    · exact k4 k_6_2 h4 h5
    · exact k4 k_6_3 h4 h5
  · rcases (by omega : a = 0 ∨ a = 1 ∨ a = 2 ∨ a = 3) with rfl | rfl | rfl | rfl
    · exact k4 k_7_0 h4 h5
    · exact k4 k_7_1 h4 h5
    · exact k4 k_7_2 h4 h5
    · exact k4 k_7_3 h4 h5
  · rcases (by omega : a = 0 ∨ a = 1 ∨ a = 2 ∨ a = 3) with rfl | rfl | rfl | rfl
    · exact k4 k_8_0 h4 h5
    · exact k4 k_8_1 h4 h5
    · exact k4 k_8_2 h4 h5
    · exact k4 k_8_3 h4 h5
  · rcases (by omega : a = 0 ∨ a = 1 ∨ a = 2 ∨ a = 3) with rfl | rfl | rfl | rfl
    · exact k4 k_9_0 h4 h5
    · exact k4 k_9_1 h4 h5
    · exact k4 k_9_2 h4 h5
    · exact k4 k_9_3 h4 h5
  · rcases (by omega : a = 0 ∨ a = 1 ∨ a = 2 ∨ a = 3) with rfl | rfl | rfl | rfl
    · exact k4 k_10_0 h4 h5
    · exact k4 k_10_1 h4 h5
    · exact k4 k_10_2 h4 h5
    · exact k4 k_10_3 h4 h5
  · rcases (by omega : a = 0 ∨ a = 1 ∨ a = 2 ∨ a = 3) with rfl | rfl | rfl | rfl
    · exact k4 k_11_0 h4 h5
    · exact k4 k_11_1 h4 h5
    · exact k4 k_11_2 h4 h5
    · exact k4 k_11_3 h4 h5
  · rcases (by omega : a = 0 ∨ a = 1 ∨ a = 2 ∨ a = 3) with rfl | rfl | rfl | rfl
    · exact k4 k_12_0 h4 h5
    · exact k4 k_12_1 h4 h5
    · exact k4 k_12_2 h4 h5
    · exact k4 k_12_3 h4 h5
  · rcases (by omega : a = 0 ∨ a = 1 ∨ a = 2 ∨ a = 3) with rfl | rfl | rfl | rfl
    · exact k4 k_13_0 h4 h5
    · exact k4 k_13_1 h4 h5
    · exact k4 k_13_2 h4 h5
    · exact k4 k_13_3 h4 h5
end Go.Proofs.YtjiekjfbllinbaaDoor.Rx
