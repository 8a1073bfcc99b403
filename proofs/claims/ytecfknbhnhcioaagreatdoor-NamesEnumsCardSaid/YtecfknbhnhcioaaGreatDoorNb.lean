/- Package names: small steps: the type int is there; no variables are missing. -/
import Derived.Test.YtecfknbhnhcioaaGreatDoorNt
namespace Go.Proofs.YtecfknbhnhcioaaGreatDoor
open Go.ChangeShapes Go.WideShapes Go.ChangeAt Go.RowKit Go.Maps
namespace Tx
set_option linter.unusedVariables false
set_option linter.unusedSimpArgs false
theorem belowDrew {B : Nat} {w w' : World} (h : Below B w w') : Below B w w'.drew := ⟨h.os, h.tape, h.output, h.size, h.block⟩
theorem cellA {W : World} {b o : Nat} {v : Value} (h : W.cell? ⟨b, o, none⟩ = some v) : ∀ x, (W.alloc x).cell? ⟨b, o, none⟩ = some v := fun x => (((Below.refl W.heap.size W).alloc (Nat.le_refl _) x).cell (p := ⟨b, o, none⟩) (World.block_lt_of_cell? _ _ h)).trans h
theorem frozenA {W : World} {b o : Nat} (hb : b < W.heap.size) (h : W.frozen? ⟨b, o, none⟩ = false) : ∀ x, (W.alloc x).frozen? ⟨b, o, none⟩ = false := fun x => (((Below.refl W.heap.size W).alloc (Nat.le_refl _) x).frozen (p := ⟨b, o, none⟩) hb).trans h
set_option maxHeartbeats 1000000 in
theorem declared_int (cb : Nat) (W : World) : Calls Tryz.prog 74 #[.pointer (some ⟨cb, 0, none⟩), .agg #[.int .u8 2, .string ⟨#[]⟩]] W fun e w' => e = .returned (.bool true) ∧ Below W.heap.size W w' := by
  go_enter Tryz.func74, Tryz.ntmps74
  go_wp2
  go_ret
  exact ⟨rfl, (Below.refl _ _).alloc (Nat.le_refl _) _⟩
set_option maxHeartbeats 1000000 in
theorem missing_nil (db : Nat) (ao : Option Addr) (c : Nat) (W : World) : Calls Tryz.prog 50 #[.slice ao 0 c, .pointer (some ⟨db, 0, none⟩)] W fun e w' => e = .returned .nilIface ∧ w' = W := by
  go_enter Tryz.func50, Tryz.ntmps50
  go_wp2_with fail
  go_loopg [9] 0 (fun g iv wr => iv = .int .i64 0 ∧ wr = W)
  case atStart => exact ⟨rfl, rfl⟩
  case round =>
    obtain ⟨rfl, rfl⟩ := hrel
    go_wp2
    go_ret
    exact ⟨rfl, rfl⟩
end Tx
end Go.Proofs.YtecfknbhnhcioaaGreatDoor
