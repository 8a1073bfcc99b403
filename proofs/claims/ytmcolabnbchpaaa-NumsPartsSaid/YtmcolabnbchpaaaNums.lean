/- Contracts of nums and of the reference's arithmetic. -/
import Derived.Test.YtmcolabnbchpaaaRows
import Derived.WalkKit
import Derived.ProofKit
import Derived.OpenShut
import Derived.Lib.Hide
namespace Go.Proofs.Ytmcolabnbchpaaa
open Go.ChangeShapes Go.WideShapes Go.ChangeAt Go.RowKit

def truthI (b : Bool) : Int := if b then 1 else 0

theorem truth_any (b : Bool) (w : World) : Calls Try.prog 13 #[.bool b] w fun e w' => e = .returned (.int .i32 (truthI b)) ∧ w = w' := by
  cases b
  all_goals
    go_enter Try.func13, Try.ntmps13
    go_wp2
    go_ret
    exact ⟨rfl, rfl⟩

theorem is_any (b : Bool) (w : World) : Calls Try.prog 16 #[.bool b] w fun e w' => e = .returned (.int .i32 (truthI b)) ∧ w = w' := by
  cases b
  all_goals
    go_enter Try.func16, Try.ntmps16
    go_wp2
    go_ret
    exact ⟨rfl, rfl⟩

def holdsB (op a b : Int) : Bool :=
  if op == 8 then a != 0 && b != 0 else if op == 9 then a != 0 || b != 0 else if op == 10 then a != b else if op == 12 then a != b
  else if op == 11 then a == b else if op == 15 then decide (b < a) else if op == 13 then decide (a < b)
  else if op == 16 then decide (b ≤ a) else if op == 14 then decide (a ≤ b) else false

theorem ret_bool {a b : Bool} (h : a = b) : Ending.returned (.bool a) = .returned (.bool b) := by rw [h]
theorem ret_int {k : IntKind} {a b : Int} (h : a = b) : Ending.returned (.int k a) = .returned (.int k b) := by rw [h]

set_option maxHeartbeats 1000000 in
theorem holds_any (op a b : Int) (w : World) :
    Calls Try.prog 14 #[.int .u8 op, .int .i32 a, .int .i32 b] w fun e w' => e = .returned (.bool (holdsB op a b)) ∧ w = w' := by
  go_enter Try.func14, Try.ntmps14
  go_wp2
  all_goals go_ret
  all_goals exact ⟨ret_bool (by simp [holdsB, *]), rfl⟩

def binI (op a b : Int) : Int :=
  if op == 3 then wrap32 (a + b) else if op == 4 then wrap32 (a - b) else if op == 5 then wrap32 (a * b)
  else if op == 6 then (if b == 0 then 0 else wrap32 (a.tdiv b)) else if op == 7 then (if b == 0 then 0 else a.tmod b)
  else truthI (holdsB op a b)

set_option maxHeartbeats 1000000 in
theorem bin_any (op a b : Int) (w : World) :
    Calls Try.prog 9 #[.int .u8 op, .int .i32 a, .int .i32 b] w fun e w' => e = .returned (.int .i32 (binI op a b)) ∧ w = w' := by
  go_enter Try.func9, Try.ntmps9
  go_wp2_with (first | (go_at_call 14; refine (holds_any _ _ _ _).mono ?_; rintro e w' ⟨rfl, rfl⟩) | (go_at_call 13; refine (truth_any _ _).mono ?_; rintro e w' ⟨rfl, rfl⟩))
  all_goals first | go_ret | (exfalso; simp_all; done)
  all_goals refine ⟨ret_int ?_, rfl⟩
  all_goals simp [binI, *]

theorem wrap32_step1 (m : Int) : wrap32 (m - 4294967296 * ((m - 2147483648) / 4294967296 + 1)) = wrap32 m := by
  unfold wrap32; omega
theorem wrap32_step2 (m : Int) : wrap32 (m + 4294967296 * ((-2147483649 - m) / 4294967296 + 1)) = wrap32 m := by
  unfold wrap32; omega

set_option maxHeartbeats 1000000 in
theorem wrap_any (n : Int) (h1 : -4611686018427387904 ≤ n) (h2 : n ≤ 4611686018427387904) (w : World) :
    Calls Try.prog 15 #[.int .i64 n] w fun e w' => e = .returned (.int .i32 (wrap32 n)) ∧ w = w' := by
  go_enter Try.func15, Try.ntmps15
  go_wp2
  go_loop [0] (fun v => ∃ m : Int, v = .int .i64 m ∧ -4611686018427387904 ≤ m ∧ m ≤ 4611686018427387904 ∧ wrap32 m = wrap32 n) (fun v => (intOf v + 4611686018427387904).toNat)
  case atStart => exact ⟨n, rfl, h1, h2, rfl⟩
  case round =>
    obtain ⟨m, rfl, g1, g2, hw⟩ := hrel
    have Hw := Lib.hid hw
    clear hw
    by_cases hm : 2147483648 ≤ m
    · go_wp2
      go_round
      case rel => exact ⟨_, rfl, by omega, by omega, by rw [wrap32_step1]; exact Hw.out⟩
      case measure => simp [intOf]; omega
    · go_wp2
      go_loop [0] (fun v => ∃ m : Int, v = .int .i64 m ∧ -4611686018427387904 ≤ m ∧ m < 2147483648 ∧ wrap32 m = wrap32 n) (fun v => (2147483648 - intOf v).toNat)
      case atStart => exact ⟨m, rfl, g1, by omega, Hw.out⟩
      case round =>
        obtain ⟨k, rfl, k1, k2, hk⟩ := hrel
        have Hk := Lib.hid hk
        clear hk
        by_cases hkm : k < -2147483648
        · go_wp2
          go_round
          case rel => exact ⟨_, rfl, by omega, by omega, by rw [wrap32_step2]; exact Hk.out⟩
          case measure => simp [intOf]; omega
        · go_wp2
          go_ret
          exact ⟨ret_int (by rw [← Hk.out]; exact (IntWalk.wrap32_in k ⟨by omega, by omega⟩).symm), rfl⟩

theorem mul_bd (a b : Int) (a1 : -2147483648 ≤ a) (a2 : a ≤ 2147483647) (b1 : -2147483648 ≤ b) (b2 : b ≤ 2147483647) : -4611686018427387904 ≤ a * b ∧ a * b ≤ 4611686018427387904 := by
  have h : (a * b).natAbs ≤ 2147483648 * 2147483648 := by
    rw [Int.natAbs_mul]; exact Nat.mul_le_mul (by omega) (by omega)
  omega
theorem tdiv_bd (a b : Int) (a1 : -2147483648 ≤ a) (a2 : a ≤ 2147483647) : -2147483648 ≤ a.tdiv b ∧ a.tdiv b ≤ 2147483648 := by
  have h : (a.tdiv b).natAbs ≤ a.natAbs := by rw [Int.natAbs_tdiv]; exact Nat.div_le_self _ _
  omega
theorem tmod_bd (a b : Int) (b1 : -2147483648 ≤ b) (b2 : b ≤ 2147483647) (hb : b ≠ 0) : -2147483647 ≤ a.tmod b ∧ a.tmod b ≤ 2147483647 := by
  have h : (a.tmod b).natAbs < b.natAbs := by rw [Int.natAbs_tmod]; exact Nat.mod_lt _ (by omega)
  omega

set_option maxHeartbeats 2000000 in
theorem rbin_any (op a b : Int) (a1 : -2147483648 ≤ a) (a2 : a ≤ 2147483647) (b1 : -2147483648 ≤ b) (b2 : b ≤ 2147483647) (w : World) :
    Calls Try.prog 10 #[.int .u8 op, .int .i32 a, .int .i32 b] w fun e w' => e = .returned (.int .i32 (binI op a b)) ∧ w = w' := by
  have m1 := (mul_bd a b a1 a2 b1 b2).1
  have m2 := (mul_bd a b a1 a2 b1 b2).2
  have d1 := (tdiv_bd a b a1 a2).1
  have d2 := (tdiv_bd a b a1 a2).2
  go_enter Try.func10, Try.ntmps10
  go_wp2_with (first | (go_at_call 15; refine (wrap_any _ ?_ ?_ _).mono ?_; rotate_left 2; rintro e w' ⟨rfl, rfl⟩) | (go_at_call 16; refine (is_any _ _).mono ?_; rintro e w' ⟨rfl, rfl⟩))
  all_goals first | go_ret | (exfalso; simp_all; done) | omega | (have t := tmod_bd a b b1 b2 (by assumption); omega)
  all_goals refine ⟨ret_int ?_, rfl⟩
  all_goals first | (simp [binI, *]; done) | (have t := tmod_bd a b b1 b2 (by assumption); show wrap32 (a.tmod b) = _; rw [IntWalk.wrap32_in _ ⟨by omega, by omega⟩]; simp_all [binI]; done) | (simp_all [binI, holdsB, truthI]; done) | trace_state

theorem awake_any (w : World) : Calls Try.prog 8 #[] w fun e w' => e = .returned (.bool true) ∧ w = w' := by
  have e1 : binI 6 7 0 = 0 := by decide
  have e2 : binI 6 (-2147483648) (-1) = -2147483648 := by unfold binI wrap32; decide
  have e3 : binI 7 (-7) 3 = -1 := by decide
  go_enter Try.func8, Try.ntmps8
  go_wp2_with (go_at_call 9; refine (bin_any _ _ _ _).mono ?_; rintro e w' ⟨rfl, rfl⟩)
  go_ret
  exact ⟨rfl, rfl⟩

def unI (op a : Int) : Int := if op == 1 then truthI (a == 0) else if op == 2 then wrap32 (-a) else 0

theorem un_any (op a : Int) (w : World) :
    Calls Try.prog 11 #[.int .u8 op, .int .i32 a] w fun e w' => e = .returned (.int .i32 (unI op a)) ∧ w = w' := by
  go_enter Try.func11, Try.ntmps11
  go_wp2_with (go_at_call 13; refine (truth_any _ _).mono ?_; rintro e w' ⟨rfl, rfl⟩)
  all_goals go_ret
  all_goals refine ⟨ret_int ?_, rfl⟩
  all_goals simp [unI, *]

theorem run_any (op a : Int) (a1 : -2147483648 ≤ a) (a2 : a ≤ 2147483647) (w : World) :
    Calls Try.prog 12 #[.int .u8 op, .int .i32 a] w fun e w' => e = .returned (.int .i32 (unI op a)) ∧ w = w' := by
  go_enter Try.func12, Try.ntmps12
  go_wp2_with (first | (go_at_call 15; refine (wrap_any _ ?_ ?_ _).mono ?_; rotate_left 2; rintro e w' ⟨rfl, rfl⟩) | (go_at_call 16; refine (is_any _ _).mono ?_; rintro e w' ⟨rfl, rfl⟩))
  all_goals first | go_ret | omega
  all_goals refine ⟨ret_int ?_, rfl⟩
  all_goals simp [unI, *]

theorem wrap32_emod (x : Int) : ∃ k : Int, wrap32 x = x + 4294967296 * k := by
  refine ⟨-((x + 2147483648) / 4294967296), ?_⟩
  unfold wrap32; omega
theorem wrap32_shift (x k : Int) : wrap32 (x + 4294967296 * k) = wrap32 x := by unfold wrap32; omega
theorem wrap32_mul_add (x b m : Int) : wrap32 (wrap32 (wrap32 x * b) + m) = wrap32 (x * b + m) := by
  obtain ⟨k, hk⟩ := wrap32_emod x
  obtain ⟨l, hl⟩ := wrap32_emod (wrap32 x * b)
  rw [hl, hk, Int.add_mul, Int.mul_assoc, show x * b + 4294967296 * (k * b) + 4294967296 * l + m = x * b + m + 4294967296 * (k * b + l) by omega, wrap32_shift]
end Go.Proofs.Ytmcolabnbchpaaa
