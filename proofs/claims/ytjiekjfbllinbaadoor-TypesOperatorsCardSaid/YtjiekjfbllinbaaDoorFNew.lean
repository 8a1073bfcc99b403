/- What faults.New makes. -/
import Derived.Test.YtjiekjfbllinbaaDoorRows
import Derived.WalkKit
import Derived.ProofKit
import Derived.OpenShut
import Derived.Lib.Hide
import Derived.Below
import Derived.Outline
namespace Go.Proofs.YtjiekjfbllinbaaDoor
open Go.ChangeShapes Go.WideShapes Go.ChangeAt Go.RowKit

/-- An At about a kind, with a place and no name, lies in the block b. -/
structure IsErr (w : World) (b : Nat) (k line col : Int) : Prop where
  c0 : w.cell? ⟨b, 0, none⟩ = some (.int .i64 line)
  c1 : w.cell? ⟨b, 1, none⟩ = some (.int .i64 col)
  c2 : w.cell? ⟨b, 2, none⟩ = some (.string ⟨#[]⟩)
  c3 : w.cell? ⟨b, 3, none⟩ = some (.bool false)
  c4 : w.cell? ⟨b, 4, none⟩ = some (.iface 62 (.int .i64 k))
theorem IsErr.below {w w' : World} {B b : Nat} {k line col : Int} (h : IsErr w b k line col) (hb : Below B w w') (hlt : b < B) : IsErr w' b k line col :=
  ⟨(hb.cell (p := ⟨b, 0, none⟩) hlt).trans h.c0, (hb.cell (p := ⟨b, 1, none⟩) hlt).trans h.c1, (hb.cell (p := ⟨b, 2, none⟩) hlt).trans h.c2, (hb.cell (p := ⟨b, 3, none⟩) hlt).trans h.c3, (hb.cell (p := ⟨b, 4, none⟩) hlt).trans h.c4⟩
theorem IsErr.lt {w : World} {b : Nat} {k line col : Int} (h : IsErr w b k line col) : b < w.heap.size := World.block_lt_of_cell? _ _ h.c0
def ErrOut (k line col : Int) (W : World) (e : Ending) (w' : World) : Prop :=
  ∃ b, e = .returned (.iface 94 (.pointer (some ⟨b, 0, none⟩))) ∧ IsErr w' b k line col ∧ W.heap.size ≤ b ∧ Below W.heap.size W w'

set_option maxHeartbeats 1000000 in
theorem new_any (k line col : Int) (hk : (k == 0) = false) (w : World) :
    Calls Tryd.prog 16 #[.int .i64 k, .agg #[.int .i64 line, .int .i64 col]] w (ErrOut k line col w) := by
  go_enter Tryd.func16, Tryd.ntmps16
  go_wp2
  go_ret
  refine ⟨_, rfl, ?_, ?_, ?_⟩
  · constructor <;> simp [go_sem]
  · simp
  · exact ((Below.refl _ _).alloc (Nat.le_refl _) _).alloc (by simp) _
end Go.Proofs.YtjiekjfbllinbaaDoor
