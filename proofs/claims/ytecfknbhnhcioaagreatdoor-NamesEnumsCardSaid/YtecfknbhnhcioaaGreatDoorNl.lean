/- Package names: the top of a stack of one. -/
import Derived.Test.YtecfknbhnhcioaaGreatDoorNj
namespace Go.Proofs.YtecfknbhnhcioaaGreatDoor
open Go.ChangeShapes Go.WideShapes Go.ChangeAt Go.RowKit Go.Maps
namespace Tx
set_option linter.unusedVariables false
set_option linter.unusedSimpArgs false
set_option maxHeartbeats 1000000 in
theorem topD_one (g c : Nat) (hc : 1 ≤ c) (W : World) : Calls Tryz.prog 140 #[.slice (some ⟨g, 0, none⟩) 1 c] W fun e w' => e = .returned (.pointer (some ⟨g, 0, none⟩)) ∧ w' = W := by
  have hw : IntKind.i64.wrap 0 = 0 := rfl
  go_enter Tryz.func140, Tryz.ntmps140
  go_wp2
  go_ret
  exact ⟨rfl, rfl⟩
set_option maxHeartbeats 1000000 in
theorem topB_one (g c : Nat) (hc : 1 ≤ c) (W : World) : Calls Tryz.prog 117 #[.slice (some ⟨g, 0, none⟩) 1 c] W fun e w' => e = .returned (.pointer (some ⟨g, 0, none⟩)) ∧ w' = W := by
  have hw : IntKind.i64.wrap 0 = 0 := rfl
  go_enter Tryz.func117, Tryz.ntmps117
  go_wp2
  go_ret
  exact ⟨rfl, rfl⟩
set_option maxRecDepth 100000 in
set_option maxHeartbeats 2000000 in
theorem popD_one (cb o g c lx cl dm : Nat) (hc : 1 ≤ c) (W : World) (h0 : W.cell? ⟨cb, o, none⟩ = some (.slice (some ⟨g, 0, none⟩) 1 c)) (f0 : W.frozen? ⟨cb, o, none⟩ = false) (h1 : W.cell? ⟨g, 0, none⟩ = some (.slice (some ⟨lx, 0, none⟩) 1 cl)) (h2 : W.cell? ⟨g, 1, none⟩ = some (.map (some dm))) :
    Calls Tryz.prog 119 #[.pointer (some ⟨cb, o, none⟩)] W fun e w' => e = .returned (.agg #[.slice (some ⟨lx, 0, none⟩) 1 cl, .map (some dm)]) ∧ w'.cell? ⟨cb, o, none⟩ = some (.slice (some ⟨g, 0, none⟩) 0 c) ∧ w'.frozen? ⟨cb, o, none⟩ = false ∧ Keeps (fun k => k = cb) W w' ∧ ∀ o' v, o' ≠ o → W.cell? ⟨cb, o', none⟩ = some v → w'.cell? ⟨cb, o', none⟩ = some v := by
  have hw : IntKind.i64.wrap 0 = 0 := rfl
  go_enter Tryz.func119, Tryz.ntmps119
  have lc := World.block_lt_of_cell? _ _ h0
  have lg := World.block_lt_of_cell? _ _ h1
  have a0 := cellA h0
  have a1 := cellA h1
  have a2 := cellA h2
  have b0 := frozenA lc f0
  go_wp2_with fail
  generalize hW1 : World.alloc W _ = W1
  have hb1 : Below W.heap.size W W1 := by rw [← hW1]; exact (Below.refl _ _).alloc (Nat.le_refl _) _
  have z1 : W1.heap.size = W.heap.size + 1 := by rw [← hW1]; simp
  have r0 : W1.cell? ⟨W.heap.size, 0, none⟩ = some (.slice none 0 0) := by rw [← hW1]; simp [go_sem]
  have r1 : W1.cell? ⟨W.heap.size, 1, none⟩ = some (.map none) := by rw [← hW1]; simp [go_sem]
  have rf0 : W1.frozen? ⟨W.heap.size, 0, none⟩ = false := by rw [← hW1]; simp [go_sem]
  have rf1 : W1.frozen? ⟨W.heap.size, 1, none⟩ = false := by rw [← hW1]; simp [go_sem]
  replace h0 : W1.cell? ⟨cb, o, none⟩ = some (.slice (some ⟨g, 0, none⟩) 1 c) := by rw [← hW1]; exact a0 _
  replace h1 : W1.cell? ⟨g, 0, none⟩ = some (.slice (some ⟨lx, 0, none⟩) 1 cl) := by rw [← hW1]; exact a1 _
  replace h2 : W1.cell? ⟨g, 1, none⟩ = some (.map (some dm)) := by rw [← hW1]; exact a2 _
  replace f0 : W1.frozen? ⟨cb, o, none⟩ = false := by rw [← hW1]; exact b0 _
  have H1 := Lib.hid (And.intro hb1 z1)
  clear hW1 a0 a1 a2 b0 hb1
  refine (topD_one g c hc W1).mono ?_
  rintro e w2 ⟨rfl, rfl⟩
  have a0 := cellA h0
  have b0 := frozenA (show cb < w2.heap.size by omega) f0
  have lr : W.heap.size < w2.heap.size := by omega
  have q0 := cellA r0
  have q1 := cellA r1
  have qf0 := frozenA lr rf0
  have qf1 := frozenA lr rf1
  clear z1
  go_upto_region 2 with (fail)
  go_region
  go_wp2
  obtain ⟨hb1, z1⟩ := H1.out
  refine bodyPost_ret (v := .agg #[.slice (some ⟨lx, 0, none⟩) 1 cl, .map (some dm)]) (by simp [results, Tryz.results119, go_sem, q0, q1, show ¬ W.heap.size = cb by omega, show ¬ cb = W.heap.size by omega]) rfl ⟨rfl, ?_, ?_, ?_, ?_⟩
  · simp [go_sem, a0, show ¬ W.heap.size = cb by omega, show ¬ cb = W.heap.size by omega]
  · simp [go_sem, b0]
  · exact (Keeps.below hb1).own (((((((Keeps.refl (fun k => k = cb ∨ W.heap.size ≤ k) w2).alloc _).setCell (p := ⟨cb, o, none⟩) (.inl rfl) _).setCell (p := ⟨W.heap.size, 0, none⟩) (.inr (Nat.le_refl _)) _).setCell (p := ⟨W.heap.size, 1, none⟩) (.inr (Nat.le_refl _)) _).drewN 1))
  · intro o' v ho hv
    have hv2 := (hb1.cell (p := ⟨cb, o', none⟩) lc).trans hv
    simp [go_sem, cellA hv2, show ¬ W.heap.size = cb by omega, show ¬ cb = W.heap.size by omega, ho, ho.symm]
end Tx
end Go.Proofs.YtecfknbhnhcioaaGreatDoor
