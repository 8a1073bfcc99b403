/- What nums.Bin answers, for every operator and all numbers. -/
import Derived.Test.YtmcolabnbchpaaaDoorRows
import Derived.WalkKit
import Derived.ProofKit
import Derived.OpenShut
import Derived.Lib.Hide
namespace Go.Proofs.YtmcolabnbchpaaaDoor
open Go.ChangeShapes Go.WideShapes Go.ChangeAt Go.RowKit

def truthI (b : Bool) : Int := if b then 1 else 0

theorem truth_any (b : Bool) (w : World) : Calls Tryd.prog 12 #[.bool b] w fun e w' => e = .returned (.int .i32 (truthI b)) ∧ w = w' := by
  cases b
  all_goals
    go_enter Tryd.func12, Tryd.ntmps12
    go_wp2
    go_ret
    exact ⟨rfl, rfl⟩

def holdsB (op a b : Int) : Bool :=
  if op == 8 then a != 0 && b != 0 else if op == 9 then a != 0 || b != 0 else if op == 10 then a != b else if op == 12 then a != b
  else if op == 11 then a == b else if op == 15 then decide (b < a) else if op == 13 then decide (a < b)
  else if op == 16 then decide (b ≤ a) else if op == 14 then decide (a ≤ b) else false

theorem ret_bool {a b : Bool} (h : a = b) : Ending.returned (.bool a) = .returned (.bool b) := by rw [h]
theorem ret_int {k : IntKind} {a b : Int} (h : a = b) : Ending.returned (.int k a) = .returned (.int k b) := by rw [h]

set_option maxHeartbeats 1000000 in
theorem holds_any (op a b : Int) (w : World) :
    Calls Tryd.prog 13 #[.int .u8 op, .int .i32 a, .int .i32 b] w fun e w' => e = .returned (.bool (holdsB op a b)) ∧ w = w' := by
  go_enter Tryd.func13, Tryd.ntmps13
  go_wp2
  all_goals go_ret
  all_goals exact ⟨ret_bool (by simp [holdsB, *]), rfl⟩

def binI (op a b : Int) : Int :=
  if op == 3 then wrap32 (a + b) else if op == 4 then wrap32 (a - b) else if op == 5 then wrap32 (a * b)
  else if op == 6 then (if b == 0 then 0 else wrap32 (a.tdiv b)) else if op == 7 then (if b == 0 then 0 else a.tmod b)
  else truthI (holdsB op a b)

set_option maxHeartbeats 1000000 in
theorem bin_any (op a b : Int) (w : World) :
    Calls Tryd.prog 11 #[.int .u8 op, .int .i32 a, .int .i32 b] w fun e w' => e = .returned (.int .i32 (binI op a b)) ∧ w = w' := by
  go_enter Tryd.func11, Tryd.ntmps11
  go_wp2_with (first | (go_at_call 13; refine (holds_any _ _ _ _).mono ?_; rintro e w' ⟨rfl, rfl⟩) | (go_at_call 12; refine (truth_any _ _).mono ?_; rintro e w' ⟨rfl, rfl⟩))
  all_goals first | go_ret | (exfalso; simp_all; done)
  all_goals refine ⟨ret_int ?_, rfl⟩
  all_goals simp [binI, *]

theorem awake_any (w : World) : Calls Tryd.prog 6 #[] w fun e w' => e = .returned (.bool true) ∧ w = w' := by
  have e1 : binI 6 7 0 = 0 := by decide
  have e2 : binI 6 (-2147483648) (-1) = -2147483648 := by unfold binI wrap32; decide
  have e3 : binI 7 (-7) 3 = -1 := by decide
  go_enter Tryd.func6, Tryd.ntmps6
  go_wp2_with (go_at_call 11; refine (bin_any _ _ _ _).mono ?_; rintro e w' ⟨rfl, rfl⟩)
  go_ret
  exact ⟨rfl, rfl⟩

theorem wrap32_emod (x : Int) : ∃ k : Int, wrap32 x = x + 4294967296 * k := by
  refine ⟨-((x + 2147483648) / 4294967296), ?_⟩
  unfold wrap32; omega
theorem wrap32_shift (x k : Int) : wrap32 (x + 4294967296 * k) = wrap32 x := by unfold wrap32; omega
theorem wrap32_mul_add (x b m : Int) : wrap32 (wrap32 (wrap32 x * b) + m) = wrap32 (x * b + m) := by
  obtain ⟨k, hk⟩ := wrap32_emod x
  obtain ⟨l, hl⟩ := wrap32_emod (wrap32 x * b)
  rw [hl, hk, Int.add_mul, Int.mul_assoc, show x * b + 4294967296 * (k * b) + 4294967296 * l + m = x * b + m + 4294967296 * (k * b + l) by omega, wrap32_shift]
end Go.Proofs.YtmcolabnbchpaaaDoor
