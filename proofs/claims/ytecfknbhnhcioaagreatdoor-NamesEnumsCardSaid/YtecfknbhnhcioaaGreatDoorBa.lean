/- Package walk: a step on the way through a block. -/
import Derived.Test.YtecfknbhnhcioaaGreatDoorNza
import Derived.BigRegion
import Derived.Deep.RegionHeld3
import Derived.Deep.AppendLies
import Derived.Laws.OwnMore
import Derived.Deep.Cut
import Derived.Deep.CutRange
import Derived.Deep.DeepCutAuto
import Derived.Deep.RegionLaw
namespace Go.Proofs.YtecfknbhnhcioaaGreatDoor
open Go.ChangeShapes Go.WideShapes Go.ChangeAt Go.RowKit Go.Maps
namespace Tx
set_option linter.unusedVariables false
set_option linter.unusedSimpArgs false
/-- What a step leaves: no error; R is known, in some blocks; all others stay. -/
def RetNil (R : (Nat → Prop) → World → Prop) (F : Nat → Prop) (w : World) (e : Ending) (w' : World) : Prop := e = .returned .nilIface ∧ ∃ F', R F' w' ∧ Keeps F w w' ∧ ∀ k, F' k → F k ∨ w.heap.size ≤ k
/-- What is known between steps: it lies in blocks F, and reads P. -/
structure Stp (P : Nat → Prop) (R : (Nat → Prop) → World → Prop) : Prop where
  lt : ∀ F w, R F w → ∀ k, F k → k < w.heap.size
  dis : ∀ F w, R F w → ∀ k, F k → ¬ P k
  keep : ∀ F S w w', R F w → Keeps S w w' → (∀ k, S k → ¬ F k ∧ ¬ P k) → R F w'
/-- A step: none, or a function that is called. -/
def Step (f x : Value) (R R' : (Nat → Prop) → World → Prop) : Prop :=
  (f = .nilFunc ∧ ∀ F w, R F w → R' F w) ∨ ∃ fe be ce, f = .func (Fn.func fe) be ce ∧ (∀ (args : Array Value) (w : World), (callFunc fe args).run Tryz.prog w = .ok (.enter fe args) w) ∧ ∀ F w, R F w → Calls Tryz.prog fe (be ++ #[x] ++ ce) w (RetNil R' F w)
theorem do_block_eq (fe : FuncId) (be ce : Array Value) (w : World) : (binOp BinOp.eql 182 (Value.func (Fn.func fe) be ce) Value.nilFunc).run Tryz.prog w = .ok (.bool false) w := by kernel_rfl
theorem do_block_nil (w : World) : (binOp BinOp.eql 182 Value.nilFunc Value.nilFunc).run Tryz.prog w = .ok (.bool true) w := by kernel_rfl
set_option maxRecDepth 100000 in
set_option maxHeartbeats 1000000 in
theorem do_block (f x : Value) (R R' : (Nat → Prop) → World → Prop) (h : Step f x R R') (F : Nat → Prop) (W : World) (hR : R F W) : Calls Tryz.prog 107 #[f, x] W (RetNil R' F W) := by
  rcases h with ⟨rfl, h⟩ | ⟨fe, be, ce, rfl, hfe, h⟩
  · have hn := do_block_nil
    go_enter Tryz.func107, Tryz.ntmps107
    go_wp2
    go_ret
    exact ⟨rfl, F, h F _ hR, Keeps.refl _ _, fun k hk => .inl hk⟩
  · have H := Lib.hid (h F W hR)
    have hn := do_block_eq fe be ce
    clear h hR
    go_enter Tryz.func107, Tryz.ntmps107
    go_wp2_with fail
    refine (H.out).mono ?_
    rintro e w1 ⟨rfl, h1⟩
    go_wp2
    go_ret
    exact ⟨rfl, h1⟩
theorem do_equation_eq (fe : FuncId) (be ce : Array Value) (w : World) : (binOp BinOp.eql 183 (Value.func (Fn.func fe) be ce) Value.nilFunc).run Tryz.prog w = .ok (.bool false) w := by kernel_rfl
theorem do_equation_nil (w : World) : (binOp BinOp.eql 183 Value.nilFunc Value.nilFunc).run Tryz.prog w = .ok (.bool true) w := by kernel_rfl
set_option maxRecDepth 100000 in
set_option maxHeartbeats 1000000 in
theorem do_equation (f x : Value) (R R' : (Nat → Prop) → World → Prop) (h : Step f x R R') (F : Nat → Prop) (W : World) (hR : R F W) : Calls Tryz.prog 138 #[f, x] W (RetNil R' F W) := by
  rcases h with ⟨rfl, h⟩ | ⟨fe, be, ce, rfl, hfe, h⟩
  · have hn := do_equation_nil
    go_enter Tryz.func138, Tryz.ntmps138
    go_wp2
    go_ret
    exact ⟨rfl, F, h F _ hR, Keeps.refl _ _, fun k hk => .inl hk⟩
  · have H := Lib.hid (h F W hR)
    have hn := do_equation_eq fe be ce
    clear h hR
    go_enter Tryz.func138, Tryz.ntmps138
    go_wp2_with fail
    refine (H.out).mono ?_
    rintro e w1 ⟨rfl, h1⟩
    go_wp2
    go_ret
    exact ⟨rfl, h1⟩
end Tx
end Go.Proofs.YtecfknbhnhcioaaGreatDoor
