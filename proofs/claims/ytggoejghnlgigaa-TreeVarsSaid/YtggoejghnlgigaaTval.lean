/- Expressions that are made. -/
import Derived.Test.YtggoejghnlgigaaTc
namespace Go.Proofs.Ytggoejghnlgigaa
open Go.ChangeShapes Go.WideShapes Go.ChangeAt Go.RowKit Go.Maps
namespace Tx
set_option linter.unusedVariables false
set_option linter.unusedSimpArgs false
def exp (k op n : Int) (nm : ByteArray) (nv kv : Value) : Value := .agg #[.int .u8 k, .int .u8 op, .int .i32 n, .string nm, nv, kv, .int .i64 0, .int .i64 0]
def Makes (W : World) (v : Value) (e : Ending) (w' : World) : Prop := e = .returned v ∧ Below W.heap.size W w'
theorem alloc_at (W : World) (o : Obj) : (W.alloc o).heap[W.heap.size]? = some o := by
  have key : ∀ (a : Array Obj) (o : Obj), (a.push o)[a.size]? = some o := by intro a o; simp
  exact key _ _
theorem alloc_at2 (W : World) (o o' : Obj) : ((W.alloc o).alloc o').heap[W.heap.size]? = some o :=
  (((Below.refl _ _).alloc (Nat.le_refl _) o').block W.heap.size (by simp)).trans (alloc_at W o)
theorem infoEx : (Try.prog.info? 30).map (·.size) = some 8 := by kernel_rfl
set_option maxHeartbeats 1000000 in
theorem int_any (n : Int) (W : World) : Calls Try.prog 20 #[.int .i32 n] W (Makes W (exp 1 0 n ⟨#[]⟩ (.slice none 0 0) (.slice none 0 0))) := by
  unfold exp
  go_enter Try.func20, Try.ntmps20
  go_wp2
  (try simp only [Exit.inBlock, Exit.then])
  refine bodyPost_ret (results_cell_row rfl _ _ W.heap.size _ _ _ _ rfl (alloc_at W _) Try.underlying30 rfl infoEx) rfl ?_
  exact ⟨rfl, (Below.refl _ _).alloc (Nat.le_refl _) _⟩
set_option maxHeartbeats 1000000 in
theorem ctor_any (s : ByteArray) (W : World) : Calls Try.prog 18 #[.string s] W (Makes W (exp 3 0 0 s (.slice none 0 0) (.slice none 0 0))) := by
  unfold exp
  go_enter Try.func18, Try.ntmps18
  go_wp2
  (try simp only [Exit.inBlock, Exit.then])
  refine bodyPost_ret (results_cell_row rfl _ _ W.heap.size _ _ _ _ rfl (alloc_at W _) Try.underlying30 rfl infoEx) rfl ?_
  exact ⟨rfl, (Below.refl _ _).alloc (Nat.le_refl _) _⟩
set_option maxHeartbeats 1000000 in
theorem name_any (s : ByteArray) (W : World) : Calls Try.prog 24 #[.string s] W (Makes W (exp 4 0 0 s (.slice none 0 0) (.slice none 0 0))) := by
  unfold exp
  go_enter Try.func24, Try.ntmps24
  go_wp2
  (try simp only [Exit.inBlock, Exit.then])
  refine bodyPost_ret (results_cell_row rfl _ _ W.heap.size _ _ _ _ rfl (alloc_at W _) Try.underlying30 rfl infoEx) rfl ?_
  exact ⟨rfl, (Below.refl _ _).alloc (Nat.le_refl _) _⟩
set_option maxHeartbeats 1000000 in
theorem bool_any (b : Bool) (W : World) : Calls Try.prog 21 #[.bool b] W (Makes W (exp 2 0 (if b then 1 else 0) ⟨#[]⟩ (.slice none 0 0) (.slice none 0 0))) := by
  unfold exp
  cases b
  all_goals
    go_enter Try.func21, Try.ntmps21
    go_wp2
    (try simp only [Exit.inBlock, Exit.then])
    refine bodyPost_ret (results_cell_row rfl _ _ W.heap.size _ _ _ _ rfl (alloc_at2 W _ _) Try.underlying30 rfl infoEx) rfl ?_
    exact ⟨rfl, ((Below.refl _ _).alloc (Nat.le_refl _) _).alloc (by simp) _⟩
end Tx
end Go.Proofs.Ytggoejghnlgigaa
