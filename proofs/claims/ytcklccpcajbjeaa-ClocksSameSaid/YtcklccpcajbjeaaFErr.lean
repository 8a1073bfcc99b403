/- What Kind and Where answer of an error that New made. -/
import Derived.Test.YtcklccpcajbjeaaFKind
import Derived.Test.YtcklccpcajbjeaaFNew
namespace Go.Proofs.Ytcklccpcajbjeaa
open Go.ChangeShapes Go.WideShapes Go.ChangeAt Go.RowKit

theorem chain_of_err {w : World} {b : Nat} {k line col : Int} (h : IsErr w b k line col) : Fk.Chain w (some k) [(line, col, false)] (.iface 114 (.pointer (some ⟨b, 0, none⟩))) :=
  ⟨b, 0, _, rfl, h.c0, h.c1, h.c3, h.c4, rfl⟩
theorem kind_err {w : World} {b : Nat} {k line col : Int} (h : IsErr w b k line col) (h1 : 1 ≤ k) (h2 : k ≤ 12) :
    Calls Try.prog 11 #[.iface 114 (.pointer (some ⟨b, 0, none⟩))] w fun e w' => e = .returned (.int .i64 k) ∧ Below w.heap.size w w' := by
  refine (Fk.Kind_chain _ _ _ _ (chain_of_err h) (by simp)).mono ?_
  rintro e w' ⟨rfl, hb⟩
  refine ⟨congrArg _ (congrArg _ ?_), hb⟩
  unfold Fk.kindV
  rw [if_neg (by simp)]
  unfold Fk.kindOf Fk.told
  simp only
  split <;> omega
end Go.Proofs.Ytcklccpcajbjeaa
