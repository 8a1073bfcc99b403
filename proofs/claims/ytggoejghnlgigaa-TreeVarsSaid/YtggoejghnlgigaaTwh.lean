/- Pick and When. -/
import Derived.Test.YtggoejghnlgigaaTvn
namespace Go.Proofs.Ytggoejghnlgigaa
open Go.ChangeShapes Go.WideShapes Go.ChangeAt Go.RowKit Go.Maps
namespace Tx
set_option linter.unusedVariables false
set_option linter.unusedSimpArgs false
theorem blk5b (W : World) (o0 o1 o2 o3 o4 : Obj) : (((((W.alloc o0).alloc o1).alloc o2).alloc o3).alloc o4).heap[W.heap.size + 1 + 1]? = some o2 := by
  have e : (((((W.alloc o0).alloc o1).alloc o2).alloc o3).alloc o4).heap = ((((W.heap.push o0).push o1).push o2).push o3).push o4 := rfl
  rw [e]
  rw [Array.getElem?_push, if_neg (by simp only [Array.size_push]; omega), Array.getElem?_push, if_neg (by simp only [Array.size_push]; omega), Array.getElem?_push, if_pos (by simp only [Array.size_push])]
set_option maxHeartbeats 2000000 in
theorem when_any (k op n : Int) (nm : ByteArray) (nv kv : Value) (s v : ByteArray) (W : World) : Calls Try.prog 23 #[exp k op n nm nv kv, .agg #[.string s, .string v]] W (fun e w' => ∃ a c : Nat, e = .returned (exp 12 0 0 v (.slice (some ⟨a, 0, none⟩) 1 1) (.slice (some ⟨c, 0, none⟩) 1 1)) ∧ Below W.heap.size W w' ∧ w'.cell? ⟨a, 0, none⟩ = some (.string s)) := by
  unfold exp
  go_enter Try.func23, Try.ntmps23
  go_wp2_with fail
  (try simp only [Exit.inBlock, Exit.then])
  refine bodyPost_ret (results_cell_row rfl _ _ (W.heap.size + 1 + 1) _ _ _ _ rfl (blk5b W _ _ _ _ _) Try.underlying30 rfl infoEx) rfl ⟨_, _, rfl, below5 W _ _ _ _ _, ?_⟩
  rw [cell_of_row _ _ 0 _ _ _ (blk5 W _ _ _ _ _).2.1]
  rfl
end Tx
end Go.Proofs.Ytggoejghnlgigaa
