/- Package names: a block that is one call is checked. -/
import Derived.Test.YtecfknbhnhcioaaGreatDoorMd
import Derived.Test.YtecfknbhnhcioaaGreatDoorBb
namespace Go.Proofs.YtecfknbhnhcioaaGreatDoor
open Go.ChangeShapes Go.WideShapes Go.ChangeAt Go.RowKit Go.Maps
namespace Tx
set_option linter.unusedVariables false
set_option linter.unusedSimpArgs false
/-- What a node of one call reads: its block at bb, bo; its equation; the name of the variable; the sets. -/
structure Rd (cb nm vm bb bo qb lb : Nat) (f s : ByteArray) (w : World) : Prop where
  v0 : ∃ ao c, w.cell? ⟨bb, bo, none⟩ = some (.slice ao 0 c)
  q0 : w.cell? ⟨qb, 0, none⟩ = some (.int .u8 2)
  q1 : ∃ c, w.cell? ⟨qb, 1, none⟩ = some (.slice (some ⟨lb, 0, none⟩) 1 c)
  q2 : w.cell? ⟨qb, 2, none⟩ = some (.string f)
  q3 : ∃ ao c, w.cell? ⟨qb, 3, none⟩ = some (.slice ao 0 c)
  q4 : w.cell? ⟨qb, 4, none⟩ = some (.bool false)
  hl : w.cell? ⟨lb, 0, none⟩ = some (.string s)
  hn : SetAt nm [f] w
  hv : VarsAt vm [s] w
/-- The blocks that it reads. -/
def Pd (nm vm bb qb lb : Nat) (k : Nat) : Prop := k = nm ∨ k = vm ∨ k = bb ∨ k = qb ∨ k = lb
theorem Rd.keep {cb nm vm bb bo qb lb : Nat} {f s : ByteArray} {S : Nat → Prop} {w w' : World} (h : Rd cb nm vm bb bo qb lb f s w) (k : Keeps S w w') (hS : ∀ j, Pd nm vm bb qb lb j → ¬ S j) : Rd cb nm vm bb bo qb lb f s w' := by
  obtain ⟨⟨ao, c, v0⟩, q0, ⟨c1, q1⟩, q2, ⟨a3, c3, q3⟩, q4, hl, hn, hv⟩ := h
  have nb := hS bb (.inr (.inr (.inl rfl)))
  have nq := hS qb (.inr (.inr (.inr (.inl rfl))))
  have nl := hS lb (.inr (.inr (.inr (.inr rfl))))
  exact ⟨⟨ao, c, k.cell v0 nb⟩, k.cell q0 nq, ⟨c1, k.cell q1 nq⟩, k.cell q2 nq, ⟨a3, c3, k.cell q3 nq⟩, k.cell q4 nq, k.cell hl nl, hn.keepB k (hS nm (.inl rfl)), hv.keepB k (hS vm (.inr (.inl rfl)))⟩
theorem SetAt.lt {mb : Nat} {ns : List ByteArray} {w : World} (h : SetAt mb ns w) : mb < w.heap.size := by
  obtain ⟨es, clock, hb, r⟩ := h
  exact (Array.getElem?_eq_some_iff.1 hb).1
theorem VarsAt.lt {mb : Nat} {ns : List ByteArray} {w : World} (h : VarsAt mb ns w) : mb < w.heap.size := by
  obtain ⟨es, clock, hb, r⟩ := h
  exact (Array.getElem?_eq_some_iff.1 hb).1
theorem Rd.below {cb nm vm bb bo qb lb : Nat} {f s : ByteArray} {w : World} (h : Rd cb nm vm bb bo qb lb f s w) : ∀ j, Pd nm vm bb qb lb j → j < w.heap.size := by
  obtain ⟨⟨ao, c, v0⟩, q0, _, _, _, _, hl, hn, hv⟩ := h
  rintro j (rfl | rfl | rfl | rfl | rfl)
  · exact hn.lt
  · exact hv.lt
  · exact World.block_lt_of_cell? _ _ v0
  · exact World.block_lt_of_cell? _ _ q0
  · exact World.block_lt_of_cell? _ _ hl
theorem row_cap1 {w : World} {base size q n cap : Nat} {e : TypeId} {xs : List Value} (h : w.ownsRow base e size (.slice (some ⟨q, 0, none⟩) n cap) n xs) : n ≤ cap := by
  rcases h.2 with ⟨e, _⟩ | ⟨g, cap', cur, e, _, _, h3, _⟩
  · cases e
  · cases e
    exact h3
/-- What is known of the checker between the steps. -/
structure Cc (nm vm cb l : Nat) (P F : Nat → Prop) (w : World) : Prop where
  c2 : w.cell? ⟨cb, 2, none⟩ = some (.map (some nm))
  c3 : w.cell? ⟨cb, 3, none⟩ = some (.map (some vm))
  c5 : ∃ cp, 1 ≤ cp ∧ w.cell? ⟨cb, 5, none⟩ = some (.slice (some ⟨l, 0, none⟩) 1 cp)
  f4 : w.frozen? ⟨cb, 4, none⟩ = false
  fl : w.frozen? ⟨l, 1, none⟩ = false
  lt : ∀ k, F k → k < w.heap.size
  dis : ∀ k, F k → ¬ P k
  fc : F cb
  fL : F l
  cl : cb ≠ l
theorem Cc.keep {nm vm cb l : Nat} {P F S : Nat → Prop} {w w' : World} (h : Cc nm vm cb l P F w) (k : Keeps S w w') (hS : ∀ j, S j → ¬ F j) : Cc nm vm cb l P F w' := by
  obtain ⟨c2, c3, ⟨cp, hcp, c5⟩, f4, fl, lt, dis, fc, fL, cl⟩ := h
  have nc : ¬ S cb := fun e => hS _ e fc
  have nl : ¬ S l := fun e => hS _ e fL
  exact ⟨k.cell c2 nc, k.cell c3 nc, ⟨cp, hcp, k.cell c5 nc⟩, (World.frozen?_of_block (a := ⟨cb, 4, none⟩) (k.block cb (lt _ fc) nc)).trans f4, (World.frozen?_of_block (a := ⟨l, 1, none⟩) (k.block l (lt _ fL) nl)).trans fl, fun j hj => Nat.lt_of_lt_of_le (lt j hj) k.size, dis, fc, fL, cl⟩
section
variable (nm vm cb l bb bo qb lb : Nat) (f s : ByteArray)
/-- Ahead of the block. -/
def Q0 (F : Nat → Prop) (w : World) : Prop := Rd cb nm vm bb bo qb lb f s w ∧ Cc nm vm cb l (Pd nm vm bb qb lb) F w ∧ w.cell? ⟨cb, 4, none⟩ = some (.slice none 0 0) ∧ w.cell? ⟨l, 1, none⟩ = some (.slice none 0 0)
/-- Within it, ahead of its equation. -/
def Q1 (F : Nat → Prop) (w : World) : Prop := Rd cb nm vm bb bo qb lb f s w ∧ Cc nm vm cb l (Pd nm vm bb qb lb) F w ∧ w.cell? ⟨l, 1, none⟩ = some (.slice none 0 0) ∧ ∃ g cap, 1 ≤ cap ∧ F g ∧ g ≠ cb ∧ g ≠ l ∧ w.cell? ⟨cb, 4, none⟩ = some (.slice (some ⟨g, 0, none⟩) 1 cap) ∧
  w.cell? ⟨g, 0, none⟩ = some (.slice none 0 0) ∧ w.cell? ⟨g, 1, none⟩ = some (.map none) ∧ w.frozen? ⟨g, 0, none⟩ = false ∧ w.frozen? ⟨g, 1, none⟩ = false
/-- Behind its equation. -/
def Q2 (F : Nat → Prop) (w : World) : Prop := Rd cb nm vm bb bo qb lb f s w ∧ Cc nm vm cb l (Pd nm vm bb qb lb) F w ∧ w.cell? ⟨l, 1, none⟩ = some (.slice none 0 0) ∧ ∃ g cap lx cx dm, 1 ≤ cap ∧ F g ∧ F lx ∧ F dm ∧ g ≠ cb ∧ cb ≠ lx ∧ cb ≠ dm ∧ l ≠ lx ∧ l ≠ dm ∧ w.cell? ⟨cb, 4, none⟩ = some (.slice (some ⟨g, 0, none⟩) 1 cap) ∧
  w.cell? ⟨g, 0, none⟩ = some (.slice (some ⟨lx, 0, none⟩) 1 cx) ∧ w.cell? ⟨g, 1, none⟩ = some (.map (some dm)) ∧ w.cell? ⟨lx, 0, none⟩ = some (.string s) ∧ SetAt dm [s] w
/-- Behind the block: what it defines. -/
def Q4 (F : Nat → Prop) (w : World) : Prop := Rd cb nm vm bb bo qb lb f s w ∧ (∀ k, F k → k < w.heap.size) ∧ (∀ k, F k → ¬ Pd nm vm bb qb lb k) ∧ ∃ cp q cq lx cx dm, 1 ≤ cp ∧ F cb ∧ F l ∧ F q ∧ F lx ∧ F dm ∧ w.cell? ⟨cb, 5, none⟩ = some (.slice (some ⟨l, 0, none⟩) 1 cp) ∧ w.cell? ⟨l, 1, none⟩ = some (.slice (some ⟨q, 0, none⟩) 1 cq) ∧
  w.cell? ⟨q, 0, none⟩ = some (.slice (some ⟨lx, 0, none⟩) 1 cx) ∧ w.cell? ⟨q, 1, none⟩ = some (.map (some dm)) ∧ w.cell? ⟨lx, 0, none⟩ = some (.string s) ∧ SetAt dm [s] w
theorem stp0 : Stp (Pd nm vm bb qb lb) (Q0 nm vm cb l bb bo qb lb f s) := by
  refine ⟨fun F w h => h.2.1.lt, fun F w h => h.2.1.dis, fun F S w w' h k hS => ?_⟩
  obtain ⟨hr, hc, h4, hl⟩ := h
  exact ⟨hr.keep k (fun j hj e => (hS j e).2 hj), hc.keep k (fun j e => (hS j e).1), k.cell h4 (fun e => (hS _ e).1 hc.fc), k.cell hl (fun e => (hS _ e).1 hc.fL)⟩
theorem stp1 : Stp (Pd nm vm bb qb lb) (Q1 nm vm cb l bb bo qb lb f s) := by
  refine ⟨fun F w h => h.2.1.lt, fun F w h => h.2.1.dis, fun F S w w' h k hS => ?_⟩
  obtain ⟨hr, hc, hl, g, cap, h1, fg, e1, e2, h4, g0, g1, x0, x1⟩ := h
  have ng : ¬ S g := fun e => (hS _ e).1 fg
  have fr : ∀ o, w'.frozen? ⟨g, o, none⟩ = w.frozen? ⟨g, o, none⟩ := fun o => World.frozen?_of_block (a := ⟨g, o, none⟩) (k.block g (hc.lt _ fg) ng)
  exact ⟨hr.keep k (fun j hj e => (hS j e).2 hj), hc.keep k (fun j e => (hS j e).1), k.cell hl (fun e => (hS _ e).1 hc.fL), g, cap, h1, fg, e1, e2, k.cell h4 (fun e => (hS _ e).1 hc.fc), k.cell g0 ng, k.cell g1 ng, by rw [fr, x0], by rw [fr, x1]⟩
theorem stp2 : Stp (Pd nm vm bb qb lb) (Q2 nm vm cb l bb bo qb lb f s) := by
  refine ⟨fun F w h => h.2.1.lt, fun F w h => h.2.1.dis, fun F S w w' h k hS => ?_⟩
  obtain ⟨hr, hc, hl, g, cap, lx, cx, dm, h1, fg, fx, fd, e1, e2, e3, e4, e5, h4, g0, g1, x0, hd⟩ := h
  have ng : ¬ S g := fun e => (hS _ e).1 fg
  exact ⟨hr.keep k (fun j hj e => (hS j e).2 hj), hc.keep k (fun j e => (hS j e).1), k.cell hl (fun e => (hS _ e).1 hc.fL), g, cap, lx, cx, dm, h1, fg, fx, fd, e1, e2, e3, e4, e5, k.cell h4 (fun e => (hS _ e).1 hc.fc), k.cell g0 ng, k.cell g1 ng, k.cell x0 (fun e => (hS _ e).1 fx), hd.keepB k (fun e => (hS _ e).1 fd)⟩
theorem stp4 : Stp (Pd nm vm bb qb lb) (Q4 nm vm cb l bb bo qb lb f s) := by
  refine ⟨fun F w h => h.2.1, fun F w h => h.2.2.1, fun F S w w' h k hS => ?_⟩
  obtain ⟨hr, lt, dis, cp, q, cq, lx, cx, dm, h1, fc, fl, fq, fx, fd, c5, l1, q0, q1, x0, hd⟩ := h
  exact ⟨hr.keep k (fun j hj e => (hS j e).2 hj), fun j hj => Nat.lt_of_lt_of_le (lt j hj) k.size, dis, cp, q, cq, lx, cx, dm, h1, fc, fl, fq, fx, fd, k.cell c5 (fun e => (hS _ e).1 fc), k.cell l1 (fun e => (hS _ e).1 fl), k.cell q0 (fun e => (hS _ e).1 fq), k.cell q1 (fun e => (hS _ e).1 fq), k.cell x0 (fun e => (hS _ e).1 fx), hd.keepB k (fun e => (hS _ e).1 fd)⟩
end
end Tx
end Go.Proofs.YtecfknbhnhcioaaGreatDoor
