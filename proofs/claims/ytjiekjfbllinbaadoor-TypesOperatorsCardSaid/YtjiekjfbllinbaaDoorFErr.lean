/- What Kind and Where answer of an error that New made. -/
import Derived.Test.YtjiekjfbllinbaaDoorFWhr
import Derived.Test.YtjiekjfbllinbaaDoorFNew
namespace Go.Proofs.YtjiekjfbllinbaaDoor
open Go.ChangeShapes Go.WideShapes Go.ChangeAt Go.RowKit

theorem chain_of_err {w : World} {b : Nat} {k line col : Int} (h : IsErr w b k line col) : Fk.Chain w (some k) [(line, col, false)] (.iface 94 (.pointer (some ⟨b, 0, none⟩))) :=
  ⟨b, 0, _, rfl, h.c0, h.c1, h.c3, h.c4, rfl⟩
theorem kind_err {w : World} {b : Nat} {k line col : Int} (h : IsErr w b k line col) (h1 : 1 ≤ k) (h2 : k ≤ 12) :
    Calls Tryd.prog 11 #[.iface 94 (.pointer (some ⟨b, 0, none⟩))] w fun e w' => e = .returned (.int .i64 k) ∧ Below w.heap.size w w' := by
  refine (Fk.Kind_chain _ _ _ _ (chain_of_err h) (by simp)).mono ?_
  rintro e w' ⟨rfl, hb⟩
  refine ⟨congrArg _ (congrArg _ ?_), hb⟩
  unfold Fk.kindV
  rw [if_neg (by simp)]
  unfold Fk.kindOf Fk.told
  simp only
  split <;> omega
theorem where_err {w : World} {b : Nat} {k line col : Int} (h : IsErr w b k line col) :
    Calls Tryd.prog 12 #[.iface 94 (.pointer (some ⟨b, 0, none⟩))] w fun e w' => e = .returned (.agg #[.int .i64 line, .int .i64 col]) ∧ Below w.heap.size w w' :=
  Fk.Where_chain _ _ _ _ _ (chain_of_err h) (by simp)
end Go.Proofs.YtjiekjfbllinbaaDoor
