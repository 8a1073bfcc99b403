/- Places compared. -/
import Derived.Test.YtlmfjaaooklhnaaDoorFCmpA
namespace Go.Proofs.YtlmfjaaooklhnaaDoor
open Go.ChangeShapes Go.WideShapes Go.ChangeAt Go.RowKit Go.Extern.Stop Go.Stop Go.Extern
namespace Fk
set_option linter.unusedVariables false
set_option linter.unusedSimpArgs false
set_option maxRecDepth 100000 in
set_option maxHeartbeats 4000000 in
theorem compare_any (l c l' c' : Int) (w : World) : Calls Tryd.prog 12 #[.agg #[.int .i64 l, .int .i64 c], .agg #[.int .i64 l', .int .i64 c']] w fun e w' => e = .returned (.int .i64 (ltP l c l' c')) ∧ Below w.heap.size w w' := by
  unfold ltP
  go_enter Tryd.func12, Tryd.ntmps12
  go_wp2
  go_region_with (first
    | (go_at_call_of 25 l; refine (cmp_any l l' _).mono ?_; rintro e w' ⟨rfl, rfl⟩)
    | (go_at_call_of 25 c; refine (cmp_any c c' _).mono ?_; rintro e w' ⟨rfl, rfl⟩)
    | (go_at_call 24; refine (or_two (cmpI l l') (cmpI c c') _ _ (by simp [go_sem]) (by simp [go_sem])).mono ?_; rintro e w' ⟨rfl, rfl⟩))
  all_goals (try go_wp2)
  all_goals (try go_ret)
  all_goals refine ⟨rfl, ?_⟩
  all_goals first
    | (repeat (first | exact Below.refl _ _ | apply Below.drew | apply below_alloc')
       done)
end Fk
end Go.Proofs.YtlmfjaaooklhnaaDoor
