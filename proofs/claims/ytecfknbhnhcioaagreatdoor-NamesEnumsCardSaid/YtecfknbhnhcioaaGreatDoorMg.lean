/- Package names: what a block of one call defines. -/
import Derived.Test.YtecfknbhnhcioaaGreatDoorMf
import Derived.Test.YtecfknbhnhcioaaGreatDoorBc
namespace Go.Proofs.YtecfknbhnhcioaaGreatDoor
open Go.ChangeShapes Go.WideShapes Go.ChangeAt Go.RowKit Go.Maps
namespace Tx
set_option linter.unusedVariables false
set_option linter.unusedSimpArgs false
set_option maxRecDepth 100000 in
set_option maxHeartbeats 4000000 in
theorem block_call (nm vm cb bb bo qb lb c1 : Nat) (f s : ByteArray) (hf : f.size ≤ maxLen) (hs : s.size ≤ maxLen) (W : World) (hr : Rd cb nm vm bb bo qb lb f s W) (b1 : W.cell? ⟨bb, bo + 1, none⟩ = some (.slice (some ⟨qb, 0, none⟩) 1 c1)) (h2 : W.cell? ⟨cb, 2, none⟩ = some (.map (some nm))) (h3 : W.cell? ⟨cb, 3, none⟩ = some (.map (some vm)))
    (h4 : W.cell? ⟨cb, 4, none⟩ = some (.slice none 0 0)) (f4 : W.frozen? ⟨cb, 4, none⟩ = false) (h5 : W.cell? ⟨cb, 5, none⟩ = some (.slice none 0 0)) (f5 : W.frozen? ⟨cb, 5, none⟩ = false) (hcP : ¬ Pd nm vm bb qb lb cb) :
    Calls Tryz.prog 49 #[.pointer (some ⟨cb, 0, none⟩), .pointer (some ⟨bb, bo, none⟩)] W fun e w' => ∃ lx cx dm, e = .returned (.tuple #[.agg #[.slice (some ⟨lx, 0, none⟩) 1 cx, .map (some dm)], .nilIface]) ∧ w'.cell? ⟨lx, 0, none⟩ = some (.string s) ∧ SetAt dm [s] w' ∧ Keeps (fun k => k = cb) W w' := by
  have lcb : cb < W.heap.size := World.block_lt_of_cell? _ _ h2
  have HR := Lib.hid hr
  have hlP := hr.below
  clear hr
  go_enter Tryz.func49, Tryz.ntmps49
  go_wp2_with fail
  generalize hW1 : World.alloc (World.alloc (World.setCell _ _ _) _) _ = W1
  have k1 : Keeps (fun k => k = cb) W W1 := by rw [← hW1]; exact (((Keeps.refl (fun k => k = cb) W).setCell (p := ⟨cb, 5, none⟩) rfl _).alloc _).alloc _
  have z1 : W1.heap.size = W.heap.size + 2 := by rw [← hW1]; simp
  have x5 : W1.cell? ⟨cb, 5, none⟩ = some (.slice (some ⟨W.heap.size + 1, 0, none⟩) 1 1) := by rw [← hW1]; exact cellA (cellA (by simp [go_sem, h5]) _) _
  have x2 : W1.cell? ⟨cb, 2, none⟩ = some (.map (some nm)) := by rw [← hW1]; exact cellA (cellA (by simp [go_sem, h2]) _) _
  have x3 : W1.cell? ⟨cb, 3, none⟩ = some (.map (some vm)) := by rw [← hW1]; exact cellA (cellA (by simp [go_sem, h3]) _) _
  have x4 : W1.cell? ⟨cb, 4, none⟩ = some (.slice none 0 0) := by rw [← hW1]; exact cellA (cellA (by simp [go_sem, h4]) _) _
  have y4 : W1.frozen? ⟨cb, 4, none⟩ = false := by rw [← hW1]; exact frozenA (by simp; omega) (frozenA (by simp; omega) (by simp [go_sem, f4]) _) _
  have l0 : W1.cell? ⟨W.heap.size + 1, 0, none⟩ = some (.map none) := by rw [← hW1]; simp [go_sem]
  have l1 : W1.cell? ⟨W.heap.size + 1, 1, none⟩ = some (.slice none 0 0) := by rw [← hW1]; simp [go_sem]
  have fl : W1.frozen? ⟨W.heap.size + 1, 1, none⟩ = false := by rw [← hW1]; simp [go_sem]
  have r0 : W1.cell? ⟨W.heap.size, 0, none⟩ = some (.slice none 0 0) := by rw [← hW1]; exact cellA (by simp [go_sem]) _
  have r1 : W1.cell? ⟨W.heap.size, 1, none⟩ = some (.map none) := by rw [← hW1]; exact cellA (by simp [go_sem]) _
  have rf0 : W1.frozen? ⟨W.heap.size, 0, none⟩ = false := by rw [← hW1]; exact frozenA (by simp) (by simp [go_sem]) _
  have rf1 : W1.frozen? ⟨W.heap.size, 1, none⟩ = false := by rw [← hW1]; exact frozenA (by simp) (by simp [go_sem]) _
  clear hW1
  have hr1 := HR.out.keep k1 (fun j hj e => hcP (e ▸ hj))
  have hq : Q0 nm vm cb (W.heap.size + 1) bb bo qb lb f s (fun k => k = cb ∨ k = W.heap.size + 1) W1 := by
    refine ⟨hr1, ⟨x2, x3, ⟨1, Nat.le_refl _, x5⟩, y4, fl, ?_, ?_, .inl rfl, .inr rfl, by omega⟩, x4, l1⟩
    · rintro k (rfl | rfl) <;> omega
    · rintro k (rfl | rfl)
      · exact hcP
      · intro hp; have := hlP _ hp; omega
  have nbc : bb ≠ cb := fun e => hcP (e ▸ .inr (.inr (.inl rfl)))
  have nqc : qb ≠ cb := fun e => hcP (e ▸ .inr (.inr (.inr (.inl rfl))))
  have HB := Lib.hid (fun a1 a2 a3 x1 x2 x3 => block_one (P := Pd nm vm bb qb lb) (F0 := fun k => k = cb ∨ k = W.heap.size + 1) _ _ _ _ _ _ a1 a2 a3 x1 x2 x3 _ _ _ _ _ _ W1 hr1.below (stp0 nm vm cb (W.heap.size + 1) bb bo qb lb f s) (stp1 nm vm cb (W.heap.size + 1) bb bo qb lb f s) (stp2 nm vm cb (W.heap.size + 1) bb bo qb lb f s) (stp2 nm vm cb (W.heap.size + 1) bb bo qb lb f s) (stp4 nm vm cb (W.heap.size + 1) bb bo qb lb f s)
    (step_enter nm vm cb (W.heap.size + 1) bb bo qb lb f s) (step_begin nm vm cb (W.heap.size + 1) bb bo qb lb f s hf hs) (step_end nm vm cb (W.heap.size + 1) bb bo qb lb f s) (step_leave nm vm cb (W.heap.size + 1) bb bo qb lb f s hs)
    (k1.cell b1 nbc) (k1.cell HR.out.q0 nqc) (.inr (.inr (.inl rfl))) (.inr (.inr (.inr (.inl rfl)))) hq)
  have HK := Lib.hid k1
  clear hr1 hq b1 h2 h3 h4 f4 h5 f5 x5 x2 x3 x4 y4 l0 l1 fl k1
  refine (HB.out _ _ _ _ _ _).mono ?_
  rintro e w2 ⟨rfl, F', h4, hk, hn⟩
  obtain ⟨hr4, lt4, dis4, cp, q, cq, lx, cx, dm, h1, fc, fl, fq, fx, fd, c5, l1, q0, q1, xl, hd⟩ := h4
  have u0 := hk.cell r0 (by omega)
  have u1 := hk.cell r1 (by omega)
  have v0 := (World.frozen?_of_block (a := ⟨W.heap.size, 0, none⟩) (hk.block W.heap.size (by omega) (by omega))).trans rf0
  have v1 := (World.frozen?_of_block (a := ⟨W.heap.size, 1, none⟩) (hk.block W.heap.size (by omega) (by omega))).trans rf1
  have nx : lx ≠ W.heap.size := by rcases hn lx fx with (e | e) | e <;> omega
  have nd : dm ≠ W.heap.size := by rcases hn dm fd with (e | e) | e <;> omega
  have HD := Lib.hid (And.intro xl (And.intro hd hk))
  have hw0 : IntKind.i64.wrap 0 = 0 := rfl
  clear r0 r1 rf0 rf1 hr4 lt4 dis4 fl fc fq fx fd xl hd hk hn
  go_wp2
  obtain ⟨xl, hd, hk⟩ := HD.out
  have kS : Keeps (fun k => k = W.heap.size) w2 ((w2.setCell ⟨W.heap.size, 0, none⟩ (.slice (some ⟨lx, 0, none⟩) 1 cx)).setCell ⟨W.heap.size, 1, none⟩ (.map (some dm))) := ((Keeps.refl (fun k => k = W.heap.size) w2).setCell (p := ⟨W.heap.size, 0, none⟩) rfl _).setCell (p := ⟨W.heap.size, 1, none⟩) rfl _
  refine bodyPost_ret (v := .tuple #[.agg #[.slice (some ⟨lx, 0, none⟩) 1 cx, .map (some dm)], .nilIface]) (by simp [results, Tryz.results49, go_sem, u0, u1]) rfl ⟨lx, cx, dm, rfl, kS.cell xl nx, hd.keepB kS nd, ?_⟩
  exact (HK.out.own (hk.mono (T := fun k => k = cb ∨ W.heap.size ≤ k) fun k _ e => e.imp id (fun e => by omega))).own (kS.mono fun k _ e => .inr (by omega))
end Tx
end Go.Proofs.YtecfknbhnhcioaaGreatDoor
