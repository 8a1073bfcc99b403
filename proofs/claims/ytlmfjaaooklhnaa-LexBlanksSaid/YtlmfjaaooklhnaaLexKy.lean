/- The keys of the reference, in memory. -/
import Derived.Test.YtlmfjaaooklhnaaLexG
namespace Go.Proofs.Ytlmfjaaooklhnaa
open Go.ChangeShapes Go.WideShapes Go.ChangeAt Go.RowKit
set_option linter.unusedVariables false

/-- The keys, in memory of their own. -/
def KeysOut (W : World) (e : Ending) (w' : World) : Prop :=
  e = .returned (.slice (some ⟨W.heap.size, 0, none⟩) 32 32) ∧ (∀ (i : Nat) (z : List UInt8), Lx.keys[i]? = some z → w'.cell? ⟨W.heap.size, i, none⟩ = some (.string ⟨z.toArray⟩)) ∧ Below W.heap.size W w'

set_option maxRecDepth 100000 in
set_option maxHeartbeats 2000000 in
theorem keys_any (W : World) : Calls Try.prog 10 #[] W (KeysOut W) := by
  go_enter Try.func10, Try.ntmps10
  go_wp2
  go_ret
  refine ⟨rfl, fun i z hz => ?_, (Below.refl _ _).alloc (Nat.le_refl _) _⟩
  rw [World.cell?_alloc_at _ _ _ _ rfl]
  change ((Lx.keys.map fun z => Value.string ⟨z.toArray⟩).toArray)[i]? = _
  simp [hz]

end Go.Proofs.Ytlmfjaaooklhnaa
