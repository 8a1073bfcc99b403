/- Package tree: what a block of one call calls. -/
import Derived.Test.YtecfknbhnhcioaaGreatDoorCa
namespace Go.Proofs.YtecfknbhnhcioaaGreatDoor
open Go.ChangeShapes Go.WideShapes Go.ChangeAt Go.RowKit Go.Maps
namespace Tx
set_option linter.unusedVariables false
set_option linter.unusedSimpArgs false
def Pt (bb qb x1 x2 x3 : Nat) (k : Nat) : Prop := k = bb ∨ k = qb ∨ k = x1 ∨ k = x2 ∨ k = x3
/-- What is known on the way: the steps' boxes at x1, x2, x3; the names at nl. -/
structure Tr (nl bb qb x1 x2 x3 : Nat) (f : ByteArray) (F : Nat → Prop) (w : World) : Prop where
  q0 : w.cell? ⟨qb, 0, none⟩ = some (.int .u8 2)
  q2 : w.cell? ⟨qb, 2, none⟩ = some (.string f)
  e1 : w.cell? ⟨x1, 0, none⟩ = some (.func (Fn.func 67) #[] #[])
  e2 : w.cell? ⟨x2, 0, none⟩ = some (.func (Fn.func 68) #[] #[.pointer (some ⟨nl, 0, none⟩)])
  e3 : w.cell? ⟨x3, 0, none⟩ = some (.func (Fn.func 67) #[] #[])
  lt : ∀ k, F k → k < w.heap.size
  dis : ∀ k, F k → ¬ Pt bb qb x1 x2 x3 k
  pl : ∀ k, Pt bb qb x1 x2 x3 k → k < w.heap.size
  fn : F nl
theorem Tr.keep {nl bb qb x1 x2 x3 : Nat} {f : ByteArray} {F S : Nat → Prop} {w w' : World} (h : Tr nl bb qb x1 x2 x3 f F w) (k : Keeps S w w') (hS : ∀ j, Pt bb qb x1 x2 x3 j → ¬ S j) : Tr nl bb qb x1 x2 x3 f F w' :=
  ⟨k.cell h.q0 (hS _ (.inr (.inl rfl))), k.cell h.q2 (hS _ (.inr (.inl rfl))), k.cell h.e1 (hS _ (.inr (.inr (.inl rfl)))), k.cell h.e2 (hS _ (.inr (.inr (.inr (.inl rfl))))), k.cell h.e3 (hS _ (.inr (.inr (.inr (.inr rfl))))),
   fun j hj => Nat.lt_of_lt_of_le (h.lt j hj) k.size, h.dis, fun j hj => Nat.lt_of_lt_of_le (h.pl j hj) k.size, h.fn⟩
section
variable (nl bb qb x1 x2 x3 : Nat) (f : ByteArray)
def T0 (F : Nat → Prop) (w : World) : Prop := Tr nl bb qb x1 x2 x3 f F w ∧ w.cell? ⟨nl, 0, none⟩ = some (.slice none 0 0) ∧ w.cell? ⟨nl, 1, none⟩ = some (.map none) ∧ w.frozen? ⟨nl, 0, none⟩ = false ∧ w.frozen? ⟨nl, 1, none⟩ = false
def T2 (F : Nat → Prop) (w : World) : Prop := Tr nl bb qb x1 x2 x3 f F w ∧ ∃ r cr, F r ∧ w.cell? ⟨nl, 0, none⟩ = some (.slice (some ⟨r, 0, none⟩) 1 cr) ∧ w.cell? ⟨r, 0, none⟩ = some (.string f)
theorem tst0 : Stp (Pt bb qb x1 x2 x3) (T0 nl bb qb x1 x2 x3 f) := by
  refine ⟨fun F w h => h.1.lt, fun F w h => h.1.dis, fun F S w w' h k hS => ?_⟩
  obtain ⟨hr, h0, h1, f0, f1⟩ := h
  have ng : ¬ S nl := fun e => (hS _ e).1 hr.fn
  have fr : ∀ o, w'.frozen? ⟨nl, o, none⟩ = w.frozen? ⟨nl, o, none⟩ := fun o => World.frozen?_of_block (a := ⟨nl, o, none⟩) (k.block nl (hr.lt _ hr.fn) ng)
  exact ⟨hr.keep k (fun j hj e => (hS j e).2 hj), k.cell h0 ng, k.cell h1 ng, by rw [fr, f0], by rw [fr, f1]⟩
theorem tst2 : Stp (Pt bb qb x1 x2 x3) (T2 nl bb qb x1 x2 x3 f) := by
  refine ⟨fun F w h => h.1.lt, fun F w h => h.1.dis, fun F S w w' h k hS => ?_⟩
  obtain ⟨hr, r, cr, hF, h0, h1⟩ := h
  exact ⟨hr.keep k (fun j hj e => (hS j e).2 hj), r, cr, hF, k.cell h0 (fun e => (hS _ e).1 hr.fn), k.cell h1 (fun e => (hS _ e).1 hF)⟩
theorem tstep_enter (x : Value) : Step (.func (Fn.func 130) #[] #[.pointer (some ⟨x1, 0, none⟩)]) x (T0 nl bb qb x1 x2 x3 f) (T0 nl bb qb x1 x2 x3 f) := by
  refine .inr ⟨_, _, _, rfl, fun args w => by kernel_rfl, fun F W h => ?_⟩
  refine (endlessB1_pass x1 x W h.1.e1).mono ?_
  rintro e w' ⟨rfl, rfl⟩
  exact ⟨rfl, F, h, Keeps.refl _ _, fun k hk => .inl hk⟩
theorem tstep_leave (x : Value) : Step (.func (Fn.func 130) #[] #[.pointer (some ⟨x3, 0, none⟩)]) x (T2 nl bb qb x1 x2 x3 f) (T2 nl bb qb x1 x2 x3 f) := by
  refine .inr ⟨_, _, _, rfl, fun args w => by kernel_rfl, fun F W h => ?_⟩
  refine (endlessB1_pass x3 x W h.1.e3).mono ?_
  rintro e w' ⟨rfl, rfl⟩
  exact ⟨rfl, F, h, Keeps.refl _ _, fun k hk => .inl hk⟩
theorem tstep_begin (hf : f.size ≤ maxLen) : Step (.func (Fn.func 131) #[] #[.pointer (some ⟨x2, 0, none⟩)]) (.pointer (some ⟨qb, 0, none⟩)) (T0 nl bb qb x1 x2 x3 f) (T2 nl bb qb x1 x2 x3 f) := by
  refine .inr ⟨_, _, _, rfl, fun args w => by kernel_rfl, fun F W h => ?_⟩
  obtain ⟨hr, h0, h1, f0, f1⟩ := h
  refine (endlessE1_calls x2 qb nl f hf W hr.e2 hr.q0 hr.q2 h0 h1 f0 f1).mono ?_
  rintro e w' ⟨rfl, r, cr, y0, yr, hge, hk⟩
  have hS : ∀ j, Pt bb qb x1 x2 x3 j → ¬ j = nl := fun j hj e => hr.dis nl hr.fn (e ▸ hj)
  have hr' := hr.keep hk hS
  refine ⟨rfl, fun k => F k ∨ k = r, ⟨⟨hr'.q0, hr'.q2, hr'.e1, hr'.e2, hr'.e3, ?_, ?_, hr'.pl, .inl hr.fn⟩, r, cr, .inr rfl, y0, yr⟩, hk.mono fun _ _ e => e ▸ hr.fn, fun k hk => hk.imp id fun e => by omega⟩
  · rintro k (h | rfl)
    · exact hr'.lt k h
    · exact World.block_lt_of_cell? _ _ yr
  · rintro k (h | rfl)
    · exact hr.dis k h
    · intro hp; have := hr.pl _ hp; omega
end
set_option maxRecDepth 100000 in
set_option maxHeartbeats 4000000 in
theorem walkBlock_call (nl bb qb : Nat) (f : ByteArray) (hf : f.size ≤ maxLen) (W : World) (b1 : W.cell? ⟨bb, 1, none⟩ = some (.slice (some ⟨qb, 0, none⟩) 1 1)) (q0 : W.cell? ⟨qb, 0, none⟩ = some (.int .u8 2)) (q2 : W.cell? ⟨qb, 2, none⟩ = some (.string f)) (h0 : W.cell? ⟨nl, 0, none⟩ = some (.slice none 0 0)) (h1 : W.cell? ⟨nl, 1, none⟩ = some (.map none)) (f0 : W.frozen? ⟨nl, 0, none⟩ = false) (f1 : W.frozen? ⟨nl, 1, none⟩ = false) (e1 : nl ≠ bb) (e2 : nl ≠ qb) :
    Calls Tryz.prog 66 #[.pointer (some ⟨bb, 0, none⟩), .func (Fn.func 67) #[] #[], .func (Fn.func 68) #[] #[.pointer (some ⟨nl, 0, none⟩)], .func (Fn.func 67) #[] #[]] W
      fun e w' => e = .returned (.tuple #[]) ∧ ∃ r cr, w'.cell? ⟨nl, 0, none⟩ = some (.slice (some ⟨r, 0, none⟩) 1 cr) ∧ w'.cell? ⟨r, 0, none⟩ = some (.string f) ∧ Keeps (fun k => k = nl) W w' := by
  go_enter Tryz.func66, Tryz.ntmps66
  go_wp2_with fail
  refine (endlessB_any _ _ _ W).mono ?_
  rintro e w1 ⟨rfl, x1, z1, k1⟩
  go_wp2_with fail
  refine (endlessE_any _ _ _ w1).mono ?_
  rintro e w2 ⟨rfl, x2, z2, k2⟩
  go_wp2_with fail
  refine (endlessB_any _ _ _ w2).mono ?_
  rintro e w3 ⟨rfl, x3, z3, k3⟩
  go_wp2_with fail
  rw [z2, z1] at x3
  rw [z1] at x2
  have kk : Keeps (fun _ => False) W w3 := (k1.trans k2).trans k3
  have lnl : nl < W.heap.size := World.block_lt_of_cell? _ _ h0
  have lbb : bb < W.heap.size := World.block_lt_of_cell? _ _ b1
  have lqb : qb < W.heap.size := World.block_lt_of_cell? _ _ q0
  have fr : ∀ o, w3.frozen? ⟨nl, o, none⟩ = W.frozen? ⟨nl, o, none⟩ := fun o => World.frozen?_of_block (a := ⟨nl, o, none⟩) (kk.block nl lnl id)
  have hpl : ∀ k, Pt bb qb W.heap.size (W.heap.size + 1) (W.heap.size + 1 + 1) k → k < w3.heap.size := by rintro k (rfl | rfl | rfl | rfl | rfl) <;> omega
  have hT : T0 nl bb qb W.heap.size (W.heap.size + 1) (W.heap.size + 1 + 1) f (fun k => k = nl) w3 := by
    refine ⟨⟨kk.cell q0 id, kk.cell q2 id, k3.cell (k2.cell x1 id) id, k3.cell x2 id, x3, ?_, ?_, hpl, rfl⟩, kk.cell h0 id, kk.cell h1 id, by rw [fr, f0], by rw [fr, f1]⟩
    · rintro k rfl; omega
    · rintro k rfl (h | h | h | h | h) <;> omega
  have HB := Lib.hid (block_few (P := Pt bb qb W.heap.size (W.heap.size + 1) (W.heap.size + 1 + 1)) (F0 := fun k => k = nl) (bo := 0) (c := 1) _ _ _ _ _ _ _ _ _ w3 hpl (tst0 nl bb qb W.heap.size (W.heap.size + 1) (W.heap.size + 1 + 1) f) (tst0 nl bb qb W.heap.size (W.heap.size + 1) (W.heap.size + 1 + 1) f) (tst2 nl bb qb W.heap.size (W.heap.size + 1) (W.heap.size + 1 + 1) f) (tst2 nl bb qb W.heap.size (W.heap.size + 1) (W.heap.size + 1 + 1) f) (tst2 nl bb qb W.heap.size (W.heap.size + 1) (W.heap.size + 1 + 1) f)
    (tstep_enter nl bb qb W.heap.size (W.heap.size + 1) (W.heap.size + 1 + 1) f _) (tstep_begin nl bb qb W.heap.size (W.heap.size + 1) (W.heap.size + 1 + 1) f hf) (.inl ⟨rfl, fun F w h => h⟩) (tstep_leave nl bb qb W.heap.size (W.heap.size + 1) (W.heap.size + 1 + 1) f _) (kk.cell b1 id) (kk.cell q0 id) (.inl rfl) (.inr (.inl rfl)) hT)
  have HK := Lib.hid kk
  clear x1 x2 x3 k1 k2 k3 kk hT fr hpl q0 q2 h0 h1 f0 f1 b1
  refine (HB.out).mono ?_
  rintro e w4 ⟨rfl, F', h4, hk, hn⟩
  obtain ⟨hr, r, cr, hF, y0, yr⟩ := h4
  have HZ := Lib.hid (And.intro y0 (And.intro yr (show Keeps (fun k => k = nl) W w4 from (HK.out.mono fun _ _ h => h.elim).trans hk)))
  clear hr hF y0 yr hk hn
  go_wp2
  go_end0
  exact ⟨rfl, r, cr, HZ.out.1, HZ.out.2.1, HZ.out.2.2⟩
set_option maxRecDepth 100000 in
set_option maxHeartbeats 4000000 in
theorem calls_call (qb : Nat) (vv : Value) (f : ByteArray) (hf : f.size ≤ maxLen) (W : World) (q0 : W.cell? ⟨qb, 0, none⟩ = some (.int .u8 2)) (q2 : W.cell? ⟨qb, 2, none⟩ = some (.string f)) :
    Calls Tryz.prog 42 #[.agg #[.slice none 0 0, .slice (some ⟨qb, 0, none⟩) 1 1]] W fun e w' => ∃ r cr, e = .returned (.slice (some ⟨r, 0, none⟩) 1 cr) ∧ w'.cell? ⟨r, 0, none⟩ = some (.string f) ∧ Below W.heap.size W w' := by
  go_enter Tryz.func42, Tryz.ntmps42
  go_wp2_with fail
  generalize hW1 : World.alloc (World.alloc _ _) _ = W1
  have kk : Keeps (fun _ => False) W W1 := by rw [← hW1]; exact ((Keeps.refl _ _).alloc _).alloc _
  have z1 : W1.heap.size = W.heap.size + 2 := by rw [← hW1]; simp
  have b1 : W1.cell? ⟨W.heap.size, 1, none⟩ = some (.slice (some ⟨qb, 0, none⟩) 1 1) := by rw [← hW1]; exact cellA (by simp [go_sem]) _
  have n0 : W1.cell? ⟨W.heap.size + 1, 0, none⟩ = some (.slice none 0 0) := by rw [← hW1]; simp [go_sem]
  have n1 : W1.cell? ⟨W.heap.size + 1, 1, none⟩ = some (.map none) := by rw [← hW1]; simp [go_sem]
  have f0 : W1.frozen? ⟨W.heap.size + 1, 0, none⟩ = false := by rw [← hW1]; simp [go_sem]
  have f1 : W1.frozen? ⟨W.heap.size + 1, 1, none⟩ = false := by rw [← hW1]; simp [go_sem]
  clear hW1
  have lqb : qb < W.heap.size := World.block_lt_of_cell? _ _ q0
  have HB := Lib.hid (walkBlock_call (W.heap.size + 1) W.heap.size qb f hf W1 b1 (kk.cell q0 id) (kk.cell q2 id) n0 n1 f0 f1 (by omega) (by omega))
  have HK := Lib.hid kk
  clear kk b1 n0 n1 f0 f1 q0 q2
  refine (HB.out).mono ?_
  rintro e w2 ⟨rfl, r, cr, y0, yr, hk⟩
  have hk2 : Keeps (fun _ => False) W w2 := HK.out.own (hk.mono fun k _ e => .inr (by omega))
  have HZ := Lib.hid (And.intro yr (show Below W.heap.size W w2 from ⟨hk2.os, hk2.tape, hk2.output, hk2.size, fun k h => hk2.block k h id⟩))
  clear yr hk hk2
  go_wp2
  go_ret
  exact ⟨r, cr, rfl, HZ.out.1, HZ.out.2⟩
end Tx
end Go.Proofs.YtecfknbhnhcioaaGreatDoor
