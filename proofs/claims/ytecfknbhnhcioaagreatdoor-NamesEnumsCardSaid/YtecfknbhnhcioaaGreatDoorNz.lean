/- A program of types alone: what Check answers. -/
import Derived.Test.YtecfknbhnhcioaaGreatDoorNy
import Derived.Deep.Cut
import Derived.Deep.CutRange
import Derived.Deep.DeepCutAuto
namespace Go.Proofs.YtecfknbhnhcioaaGreatDoor
open Go.ChangeShapes Go.WideShapes Go.ChangeAt Go.RowKit Go.Maps
namespace Tx
set_option linter.unusedVariables false
set_option linter.unusedSimpArgs false
theorem mk0_ints (w : World) : (Instr.makeSlice 109 (.int .i64 0) (.int .i64 0)).run Tryz.prog w = .ok (.slice (some ⟨w.heap.size, 0, none⟩) 0 0) (w.alloc (.cells #[] 3)) := by kernel_rfl
theorem mk0_lists (w : World) : (Instr.makeSlice 85 (.int .i64 0) (.int .i64 0)).run Tryz.prog w = .ok (.slice (some ⟨w.heap.size, 0, none⟩) 0 0) (w.alloc (.cells #[] 109)) := by kernel_rfl
theorem mkm_ints (w : World) : (Instr.makeMap 104 none).run Tryz.prog w = .ok (.map (some w.heap.size)) (w.alloc (.map #[] 0)) := by kernel_rfl
theorem mkm_set (w : World) : (Instr.makeMap 73 none).run Tryz.prog w = .ok (.map (some w.heap.size)) (w.alloc (.map #[] 0)) := by kernel_rfl
set_option maxRecDepth 100000 in
set_option maxHeartbeats 2000000 in
theorem places_nil (ev : Value) (W : World) : Calls Tryz.prog 41 #[.agg #[ev, .slice none 0 0]] W fun e w' => (∃ v, e = .returned v) ∧ Below W.heap.size W w' := by
  have hmk := mkm_ints
  go_enter Tryz.func41, Tryz.ntmps41
  go_wp2_with fail
  generalize hW2 : (W.alloc _).alloc _ = W2
  have hb : Below W.heap.size W W2 := by rw [← hW2]; exact ((Below.refl _ _).alloc (Nat.le_refl _) _).alloc (by simp) _
  clear hW2
  go_loopg [10] 0 (fun g v wr => v = .int .i64 0 ∧ W2 = wr)
  case atStart => exact ⟨rfl, rfl⟩
  case round =>
    obtain ⟨rfl, rfl⟩ := hrel
    go_wp2
    go_ret
    exact ⟨⟨_, rfl⟩, hb⟩
set_option maxRecDepth 100000 in
set_option maxHeartbeats 2000000 in
theorem calls_nil (ev : Value) (W : World) : Calls Tryz.prog 27 #[.agg #[ev, .slice none 0 0]] W fun e w' => (∃ ao c, e = .returned (.slice ao 0 c)) ∧ Below W.heap.size W w' := by
  have hmk := mk0_lists
  go_enter Tryz.func27, Tryz.ntmps27
  go_wp2_with fail
  generalize hW2 : W.alloc _ = W2
  have hb : Below W.heap.size W W2 := by rw [← hW2]; exact (Below.refl _ _).alloc (Nat.le_refl _) _
  have x1 : W2.cell? ⟨W.heap.size, 1, none⟩ = some (.slice none 0 0) := by rw [← hW2]; simp [go_sem]
  have hlt : W.heap.size < W2.heap.size := by rw [← hW2]; simp
  clear hW2
  refine (places_nil ev W2).mono ?_
  rintro e w3 ⟨⟨v, rfl⟩, hb3⟩
  have x3 := (hb3.cell (p := ⟨W.heap.size, 1, none⟩) hlt).trans x1
  have x4 : ∀ o, (w3.alloc o).cell? ⟨W.heap.size, 1, none⟩ = some (.slice none 0 0) := fun o => (((Below.refl w3.heap.size w3).alloc (Nat.le_refl _) o).cell (p := ⟨W.heap.size, 1, none⟩) (World.block_lt_of_cell? w3 _ x3)).trans x3
  have HB := Lib.hid (hb.trans (hb3.mono (Nat.le_of_lt hlt)))
  clear hb hb3 x1
  go_wp2_with fail
  generalize hW4 : w3.alloc _ = W4
  have hb4 : Below w3.heap.size w3 W4 := by rw [← hW4]; exact (Below.refl _ _).alloc (Nat.le_refl _) _
  have HB4 := Lib.hid (HB.out.trans (hb4.mono HB.out.size))
  clear hW4 x3 x4 hb4
  go_loopg [20] 0 (fun g v wr => v = .int .i64 0 ∧ W4 = wr)
  case atStart => exact ⟨rfl, rfl⟩
  case round =>
    obtain ⟨rfl, rfl⟩ := hrel
    go_wp2
    go_ret
    exact ⟨⟨_, _, rfl⟩, HB4.out⟩
set_option maxRecDepth 100000 in
set_option maxHeartbeats 2000000 in
theorem looped_nil (ao : Option Addr) (c : Nat) (W : World) : Calls Tryz.prog 26 #[.slice ao 0 c] W fun e w' => e = .returned (.int .i64 (-1)) ∧ Below W.heap.size W w' := by
  have hmk := mk0_ints
  go_enter Tryz.func26, Tryz.ntmps26
  go_upto_region 1 with (fail)
  go_cut [3] (fun v w => ∃ g : Nat, v = .pointer (some ⟨g, 0, none⟩) ∧ w.cell? ⟨g, 6, none⟩ = some (.int .i64 (-1)) ∧ Below W.heap.size W w)
  case first =>
    go_region
    all_goals (go_wp2; go_meet)
    all_goals exact ⟨_, rfl, by simp [go_sem], by first | exact ((((Below.refl _ _).alloc (Nat.le_refl _) _).alloc (by simp) _).alloc (by simp; omega) _) | exact ((((Below.refl _ _).alloc (Nat.le_refl _) _).alloc (by simp) _).alloc (by simp; omega) _).drew⟩
  case rest =>
    clear hmk
    obtain ⟨g, rfl, hg, hb⟩ := hcut
    go_wp2_with fail
    go_loopg [15] 0 (fun g v wr => v = .int .i64 0 ∧ wc = wr)
    case atStart => exact ⟨rfl, rfl⟩
    case round =>
      obtain ⟨rfl, rfl⟩ := hrel
      go_wp2
      go_ret
      exact ⟨rfl, hb⟩
end Tx
end Go.Proofs.YtecfknbhnhcioaaGreatDoor
