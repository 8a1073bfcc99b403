/- FaultsFirst: nothing to compare. -/
import Derived.Test.YtlmfjaaooklhnaaDoorFFi
namespace Go.Proofs.YtlmfjaaooklhnaaDoor
open Go.ChangeShapes Go.WideShapes Go.ChangeAt Go.RowKit Go.Extern.Stop Go.Stop Go.Extern
namespace Fk
set_option linter.unusedVariables false
set_option linter.unusedSimpArgs false
set_option maxRecDepth 100000 in
set_option maxHeartbeats 4000000 in
theorem first_empty (a0 a1 a2 : Option Addr) (n0 cap0 n1 cap1 n2 cap2 : Nat) (W : World) (hn0 : n0 ≤ 20) (h : ¬ (0 < n0 ∧ 0 < n1 ∧ 0 < n2)) :
    Calls Tryd.prog 3 #[.slice a0 n0 cap0, .slice a1 n1 cap1, .slice a2 n2 cap2] W fun e w' => e = .returned (.bool true) ∧ Below W.heap.size W w' := by
  have hw : ¬ 0 < n0 ∨ (0 < n0 ∧ ¬ 0 < n1) ∨ (0 < n0 ∧ 0 < n1 ∧ ¬ 0 < n2) := by omega
  clear h
  rcases hw with hw | ⟨hw1, hw⟩ | ⟨hw1, hw2, hw⟩
  all_goals
    go_enter Tryd.func3, Tryd.ntmps3
    go_wp2_with (go_at_call 4; refine (awake_any _).mono ?_; rintro e w3 ⟨rfl, hb3⟩)
    refine wp_loop_rounds 1 ?_
    rw [rounds_succ]
    go_wp2_with (go_at_call 7; refine (first_none _).mono ?_; rintro e w4 ⟨rfl, hb4⟩)
    go_ret
    exact ⟨rfl, hb3.trans (hb4.mono hb3.size)⟩
end Fk
end Go.Proofs.YtlmfjaaooklhnaaDoor
