/- An argument that is an expression. -/
import Derived.Test.YtggoejghnlgigaaTo
import Derived.Test.YtggoejghnlgigaaTpk
namespace Go.Proofs.Ytggoejghnlgigaa
open Go.ChangeShapes Go.WideShapes Go.ChangeAt Go.RowKit Go.Joins
namespace Tx
set_option linter.unusedVariables false
set_option maxRecDepth 100000 in
theorem open_expr {H : Type} {enc : TypeId × Value → H} {w : World} {held : Bool} {r : Reach} {b0 : Nat} {v : Value} {d : DataW H} {p : List MemPlace} (hv : Value.okWide Try.prog w r b0 30 v)
    (h : DataW.Trod enc Try.prog w 0 (fun _ => true) held 30 v d p) :
    ∃ D ks nv kv, v = exV D nv kv ∧ WfD D ∧ NamesIn (fun k => k < w.heap.size) w nv D.ns ∧ KidsIn (fun k => k < w.heap.size) w kv ks := by
  obtain ⟨cs, rfl, hsz⟩ := okWide_struct Try.underlying30 hv
  obtain ⟨fuel, hf⟩ := h
  obtain ⟨D, ks, nv, kv, e, h1, h2, h3⟩ := expr_of fuel _ _ hf
  refine ⟨D, ks, nv, kv, ?_, h1, h2, h3⟩
  have e2 : cs.toList = cells D nv kv := e
  have e3 : cs = (cells D nv kv).toArray := by rw [← e2]
  rw [e3]
  rfl
end Tx
end Go.Proofs.Ytggoejghnlgigaa
