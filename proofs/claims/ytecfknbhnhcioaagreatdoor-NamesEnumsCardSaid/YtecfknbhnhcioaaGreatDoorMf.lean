/- Package names: the steps through a block that is one call. -/
import Derived.Test.YtecfknbhnhcioaaGreatDoorMe
namespace Go.Proofs.YtecfknbhnhcioaaGreatDoor
open Go.ChangeShapes Go.WideShapes Go.ChangeAt Go.RowKit Go.Maps
namespace Tx
set_option linter.unusedVariables false
set_option linter.unusedSimpArgs false
section
variable (nm vm cb l bb bo qb lb : Nat) (f s : ByteArray)
theorem step_enter : Step (.func (Fn.func 77) #[.pointer (some ⟨cb, 0, none⟩)] #[]) (.pointer (some ⟨bb, bo, none⟩)) (Q0 nm vm cb l bb bo qb lb f s) (Q1 nm vm cb l bb bo qb lb f s) := by
  refine .inr ⟨_, _, _, rfl, fun args w => by kernel_rfl, fun F W h => ?_⟩
  obtain ⟨hr, hc, h4, hl⟩ := h
  obtain ⟨ao, c, v0⟩ := hr.v0
  refine (enter_none cb bb bo ao c W h4 hc.f4 v0).mono ?_
  rintro e w' ⟨rfl, g, cap, x4, xf, hg, hown, hk, ho⟩
  have hcb : ¬ Pd nm vm bb qb lb cb := hc.dis _ hc.fc
  have lcb := hc.lt _ hc.fc
  have ll := hc.lt _ hc.fL
  have hgw := (hown.lt g rfl).2
  obtain ⟨cp, hcp, c5⟩ := hc.c5
  refine ⟨rfl, fun k => F k ∨ k = g, ⟨hr.keep hk (fun j hj e => hcb (e ▸ hj)), ⟨ho 2 _ (by decide) hc.c2, ho 3 _ (by decide) hc.c3, ⟨cp, hcp, ho 5 _ (by decide) c5⟩, xf, ?_, ?_, ?_, .inl hc.fc, .inl hc.fL, hc.cl⟩, hk.cell hl hc.cl.symm, g, cap, row_cap1 hown, .inr rfl, by omega, by omega, x4, by simpa using hown.cellAt 0 (by simp), by simpa using hown.cellAt 1 (by simp), hown.frozenAt 0, hown.frozenAt 1⟩, hk.mono fun _ _ e => e ▸ hc.fc, fun k hk => hk.imp id fun e => by omega⟩
  · exact (World.frozen?_of_block (a := ⟨l, 1, none⟩) (hk.block l ll hc.cl.symm)).trans hc.fl
  · rintro k (h | rfl)
    · exact Nat.lt_of_lt_of_le (hc.lt k h) hk.size
    · exact hgw
  · rintro k (h | rfl)
    · exact hc.dis k h
    · intro hp
      have : ∀ j, Pd nm vm bb qb lb j → j < W.heap.size := hr.below
      have := this _ hp
      omega
theorem step_begin (hf : f.size ≤ maxLen) (hs : s.size ≤ maxLen) : Step (.func (Fn.func 78) #[.pointer (some ⟨cb, 0, none⟩)] #[]) (.pointer (some ⟨qb, 0, none⟩)) (Q1 nm vm cb l bb bo qb lb f s) (Q2 nm vm cb l bb bo qb lb f s) := by
  refine .inr ⟨_, _, _, rfl, fun args w => by kernel_rfl, fun F W h => ?_⟩
  obtain ⟨hr, hc, hl, g, cap, h1, fg, e1, e2, h4, g0, g1, x0, x1⟩ := h
  obtain ⟨c1, q1⟩ := hr.q1
  obtain ⟨ao, c3, q3⟩ := hr.q3
  have hd := fun j (hj : Pd nm vm bb qb lb j) (e : g = j) => hc.dis g fg (e ▸ hj)
  refine (begin_call cb nm vm qb g cap lb c1 c3 ao f s hf hs h1 W hc.c2 hc.c3 h4 hr.hn hr.hv hr.q0 q1 hr.q2 q3 hr.q4 hr.hl g0 g1 x0 x1 e1 (hd lb (.inr (.inr (.inr (.inr rfl))))) (hd vm (.inr (.inl rfl))) hr.hv.lt).mono ?_
  rintro e w' ⟨rfl, ⟨lx, cx, dm, y0, y1, yl, hsd, b1, b2, b3⟩, hk⟩
  have hS : ∀ j, j = g → F j := fun j e => e ▸ fg
  have lcb := hc.lt _ hc.fc
  have ll := hc.lt _ hc.fL
  have hcc := hc.c2
  refine ⟨rfl, fun k => F k ∨ k = lx ∨ k = dm, ⟨hr.keep hk (fun j hj e => hd j hj e.symm), ⟨hk.cell hc.c2 (Ne.symm e1), hk.cell hc.c3 (Ne.symm e1), ?_, ?_, ?_, ?_, ?_, .inl hc.fc, .inl hc.fL, hc.cl⟩, hk.cell hl (Ne.symm e2), g, cap, lx, cx, dm, h1, .inl fg, .inr (.inl rfl), .inr (.inr rfl), e1, by omega, by omega, by omega, by omega, hk.cell h4 (Ne.symm e1), y0, y1, yl, hsd⟩, hk.mono fun _ _ e => hS _ e, fun k hk => hk.imp id fun e => by omega⟩
  · obtain ⟨cp, hcp, c5⟩ := hc.c5
    exact ⟨cp, hcp, hk.cell c5 (Ne.symm e1)⟩
  · exact (World.frozen?_of_block (a := ⟨cb, 4, none⟩) (hk.block cb lcb (Ne.symm e1))).trans hc.f4
  · exact (World.frozen?_of_block (a := ⟨l, 1, none⟩) (hk.block l ll (Ne.symm e2))).trans hc.fl
  · rintro k (h | rfl | rfl)
    · exact Nat.lt_of_lt_of_le (hc.lt k h) hk.size
    · exact World.block_lt_of_cell? _ _ yl
    · exact hsd.lt
  · rintro k (h | rfl | rfl)
    · exact hc.dis k h
    · intro hp; have := hr.below _ hp; omega
    · intro hp; have := hr.below _ hp; omega
theorem step_end : Step (.func (Fn.func 82) #[.pointer (some ⟨cb, 0, none⟩)] #[]) (.pointer (some ⟨qb, 0, none⟩)) (Q2 nm vm cb l bb bo qb lb f s) (Q2 nm vm cb l bb bo qb lb f s) := by
  refine .inr ⟨_, _, _, rfl, fun args w => by kernel_rfl, fun F W h => ?_⟩
  refine (end_call cb qb W h.1.q0).mono ?_
  rintro e w' ⟨rfl, rfl⟩
  exact ⟨rfl, F, h, Keeps.refl _ _, fun k hk => .inl hk⟩
theorem step_leave (hs : s.size ≤ maxLen) : Step (.func (Fn.func 81) #[.pointer (some ⟨cb, 0, none⟩)] #[]) (.pointer (some ⟨bb, bo, none⟩)) (Q2 nm vm cb l bb bo qb lb f s) (Q4 nm vm cb l bb bo qb lb f s) := by
  refine .inr ⟨_, _, _, rfl, fun args w => by kernel_rfl, fun F W h => ?_⟩
  obtain ⟨hr, hc, hl, g, cap, lx, cx, dm, h1, fg, fx, fd, e1, e2, e3, e4, e5, h4, g0, g1, x0, hd⟩ := h
  obtain ⟨ao, c, v0⟩ := hr.v0
  obtain ⟨cp, hcp, c5⟩ := hc.c5
  have hcb : cb ≠ bb := fun e => hc.dis _ hc.fc (e ▸ .inr (.inr (.inl rfl)))
  refine (leaveB_one cb bb bo g cap lx cx dm l cp ao c s hs h1 hcp W h4 hc.f4 c5 g0 g1 x0 hd hl hc.fl v0 hc.cl e2 e3 hcb e4 e5 hd.lt).mono ?_
  rintro e w' ⟨rfl, ⟨q, cq, y1, yq0, yq1, hq⟩, y5, hk⟩
  have hS : ∀ j, (j = cb ∨ j = l) → F j := fun j e => e.elim (fun e => e ▸ hc.fc) (fun e => e ▸ hc.fL)
  refine ⟨rfl, fun k => F k ∨ k = q, ⟨hr.keep hk (fun j hj e => hc.dis j (hS j e) hj), ?_, ?_, cp, q, cq, lx, cx, dm, hcp, .inl hc.fc, .inl hc.fL, .inr rfl, .inl fx, .inl fd, y5, y1, yq0, yq1, hk.cell x0 (by omega), hd.keepB hk (by omega)⟩, hk.mono fun _ _ e => hS _ e, fun k hk => hk.imp id fun e => by omega⟩
  · rintro k (h | rfl)
    · exact Nat.lt_of_lt_of_le (hc.lt k h) hk.size
    · exact World.block_lt_of_cell? _ _ yq0
  · rintro k (h | rfl)
    · exact hc.dis k h
    · intro hp; have := hr.below _ hp; omega
end
end Tx
end Go.Proofs.YtecfknbhnhcioaaGreatDoor
