/- The number of a constant, where there are no types. -/
import Derived.Test.YtggoejghnlgigaaTval
namespace Go.Proofs.Ytggoejghnlgigaa
open Go.ChangeShapes Go.WideShapes Go.ChangeAt Go.RowKit Go.Maps
namespace Tx
set_option linter.unusedVariables false
set_option linter.unusedSimpArgs false
set_option maxHeartbeats 1000000 in
theorem indexFunc_nil (f : Value) (W : World) : Calls Try.prog 38 #[.slice none 0 0, f] W fun e w' => e = .returned (.int .i64 (-1)) ∧ W = w' := by
  go_enter Try.func38, Try.ntmps38
  go_wp2
  go_loopg [8] 0 (fun g v wr => v = .int .i64 0 ∧ W = wr)
  case atStart => exact ⟨rfl, rfl⟩
  case round =>
    obtain ⟨rfl, rfl⟩ := hrel
    go_wp2
    go_ret
    exact ⟨rfl, rfl⟩
set_option maxHeartbeats 1000000 in
theorem ctorEnum_nil (s : ByteArray) (W : World) : Calls Try.prog 13 #[.slice none 0 0, .string s] W (Makes W (.int .i64 (-1))) := by
  have hmf : ∀ (fn : Fn) (first cap : Array Value) (w : World), (Instr.makeFunc fn first cap).run Try.prog w = .ok (.func fn first cap) w := fun _ _ _ _ => rfl
  go_enter Try.func13, Try.ntmps13
  go_wp2_with fail
  refine (indexFunc_nil _ _).mono ?_
  rintro e w1 ⟨rfl, rfl⟩
  go_wp2
  go_ret
  exact ⟨rfl, (Below.refl _ _).alloc (Nat.le_refl _) _⟩
def isC (d : Dt) : Bool := d.k == 1 || d.k == 2
set_option maxHeartbeats 2000000 in
theorem value_nil (d : Dt) (nv kv : Value) (W : World) : Calls Try.prog 17 #[.slice none 0 0, exV d nv kv] W (Makes W (.tuple #[.int .i32 (if isC d then d.n else 0), .bool (isC d)])) := by
  unfold exV isC
  cases t1 : (d.k == 1) <;> cases t2 : (d.k == 2) <;> cases t3 : (d.k == 3)
  all_goals
    go_enter Try.func17, Try.ntmps17
    go_wp2_with fail
    first
      | exact bodyPost_ret (v := .tuple #[.int .i32 0, .bool false]) (by simp [results, Try.results17, go_sem]) rfl ⟨rfl, (Below.refl _ _).alloc (Nat.le_refl _) _⟩
      | exact bodyPost_ret (v := .tuple #[.int .i32 d.n, .bool true]) (by simp [results, Try.results17, go_sem]) rfl ⟨rfl, (Below.refl _ _).alloc (Nat.le_refl _) _⟩
      | (refine (ctorEnum_nil d.nm _).mono ?_
         rintro e w1 ⟨rfl, hb1⟩
         go_wp2
         exact bodyPost_ret (v := .tuple #[.int .i32 0, .bool false]) (by simp [results, Try.results17, go_sem]) rfl ⟨rfl, keeps_below (F := fun _ => False) ((Below.refl W.heap.size W).alloc (Nat.le_refl _) _) (Keeps.below hb1) (by simp) (fun _ h => h.elim)⟩)
end Tx
end Go.Proofs.Ytggoejghnlgigaa
