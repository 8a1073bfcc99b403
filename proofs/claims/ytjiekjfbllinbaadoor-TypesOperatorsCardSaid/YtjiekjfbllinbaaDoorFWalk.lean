/- How the errors that wrap one another are gone through: what lies in memory, and the small functions of the walk. -/
import Derived.Test.YtjiekjfbllinbaaDoorFLow
import Derived.Laws.AppendOwn
import Derived.OwnWalk
import Derived.WalkSpells
import Derived.Deep.Draws
namespace Go.Proofs.YtjiekjfbllinbaaDoor
open Go.ChangeShapes Go.WideShapes Go.ChangeAt Go.RowKit Go.Extern.Stop Go.Stop Go.Extern
namespace Fk
set_option linter.unusedVariables false
set_option linter.unusedSimpArgs false

/-- What is not among some blocks stays. -/
structure Keeps (S : Nat → Prop) (w w' : World) : Prop where
  os : w'.os = w.os
  tape : w'.tape = w.tape
  output : w'.output = w.output
  size : w.heap.size ≤ w'.heap.size
  block : ∀ k, k < w.heap.size → ¬ S k → w'.heap[k]? = w.heap[k]?
theorem Keeps.refl (S : Nat → Prop) (w : World) : Keeps S w w := ⟨rfl, rfl, rfl, Nat.le_refl _, fun _ _ _ => rfl⟩
theorem Keeps.trans {S : Nat → Prop} {a b c : World} (h : Keeps S a b) (k : Keeps S b c) : Keeps S a c :=
  ⟨k.os.trans h.os, k.tape.trans h.tape, k.output.trans h.output, Nat.le_trans h.size k.size, fun i hi hs => (k.block i (Nat.lt_of_lt_of_le hi h.size) hs).trans (h.block i hi hs)⟩
theorem Keeps.below {S : Nat → Prop} {w w' : World} (h : Below w.heap.size w w') : Keeps S w w' := ⟨h.os, h.tape, h.output, h.size, fun k hk _ => h.block k hk⟩
theorem Keeps.alloc {S : Nat → Prop} {a w : World} (h : Keeps S a w) (o : Obj) : Keeps S a (w.alloc o) := h.trans (Keeps.below ((Below.refl _ _).alloc (Nat.le_refl _) _))
theorem Keeps.setCell {S : Nat → Prop} {a w : World} (h : Keeps S a w) {p : Addr} (hp : S p.block) (u : Value) : Keeps S a (w.setCell p u) :=
  h.trans ⟨rfl, rfl, rfl, by simp, fun k hk hs => Below.heap_setCell w p u k (fun e => hs (e ▸ hp))⟩
theorem Keeps.drewN {S : Nat → Prop} {a w : World} (h : Keeps S a w) (n : Nat) : Keeps S a (w.drewN n) := h.trans ⟨rfl, rfl, rfl, Nat.le_refl _, fun _ _ _ => rfl⟩
theorem Keeps.cell {S : Nat → Prop} {w w' : World} (h : Keeps S w w') {b o : Nat} {v : Value} (hc : w.cell? ⟨b, o, none⟩ = some v) (hs : ¬ S b) : w'.cell? ⟨b, o, none⟩ = some v :=
  (World.cell?_of_block (h.block b (World.block_lt_of_cell? w ⟨b, o, none⟩ hc) hs)).trans hc
theorem Keeps.mono {S T : Nat → Prop} {w w' : World} (h : Keeps S w w') (hST : ∀ k, k < w.heap.size → S k → T k) : Keeps T w w' :=
  ⟨h.os, h.tape, h.output, h.size, fun k hk ht => h.block k hk (fun hs => ht (hST k hk hs))⟩

/-- The walk in block b: n errors are still to be gone through (none or one), x lies in the first place of the row r; nothing is kept in mind. -/
structure WS (w : World) (b r mb cap n : Nat) (x : Value) (ats row left : Int) : Prop where
  c0 : w.cell? ⟨b, 0, none⟩ = some (.slice (some ⟨r, 0, none⟩) n cap)
  c1 : w.cell? ⟨b, 1, none⟩ = some (.map (some mb))
  c2 : w.cell? ⟨b, 2, none⟩ = some (.int .i64 ats)
  c4 : w.cell? ⟨b, 4, none⟩ = some (.int .i64 row)
  c6 : w.cell? ⟨b, 6, none⟩ = some (.int .i64 left)
  fb : ∀ o, w.frozen? ⟨b, o, none⟩ = false
  cr : w.cell? ⟨r, 0, none⟩ = some x
  fr : w.frozen? ⟨r, 0, none⟩ = false
  m : ∃ clock, w.heap[mb]? = some (.map #[] clock)
  hcap : 1 ≤ cap
  hmax : cap ≤ maxLen
  br : b ≠ r
  bm : b ≠ mb
  rm : r ≠ mb
section
variable {w : World} {b r mb cap n : Nat} {x : Value} {ats row left : Int}
theorem WS.keep {S : Nat → Prop} {w' : World} (h : WS w b r mb cap n x ats row left) (k : Keeps S w w') (hb : ¬ S b) (hr : ¬ S r) (hm : ¬ S mb) : WS w' b r mb cap n x ats row left := by
  have lb := World.block_lt_of_cell? w _ h.c0
  have lr := World.block_lt_of_cell? w _ h.cr
  obtain ⟨cl, hcl⟩ := h.m
  have lm : mb < w.heap.size := (Array.getElem?_eq_some_iff.1 hcl).1
  exact ⟨k.cell h.c0 hb, k.cell h.c1 hb, k.cell h.c2 hb, k.cell h.c4 hb, k.cell h.c6 hb, fun o => (World.frozen?_of_block (k.block b lb hb)).trans (h.fb o), k.cell h.cr hr,
    (World.frozen?_of_block (k.block r lr hr)).trans h.fr, ⟨cl, (k.block mb lm hm).trans hcl⟩, h.hcap, h.hmax, h.br, h.bm, h.rm⟩
theorem WS.set4 (h : WS w b r mb cap n x ats row left) (row' : Int) : WS (w.setCell ⟨b, 4, none⟩ (.int .i64 row')) b r mb cap n x ats row' left := by
  obtain ⟨cl, hcl⟩ := h.m
  have e1 := h.br; have e2 := h.bm
  refine ⟨?_, ?_, ?_, ?_, ?_, fun o => ?_, ?_, ?_, ⟨cl, (Below.heap_setCell _ _ _ _ (by simp; omega)).trans hcl⟩, h.hcap, h.hmax, h.br, h.bm, h.rm⟩ <;> simp [go_sem, h.c0, h.c1, h.c2, h.c4, h.c6, h.fb, h.cr, h.fr, e1, Ne.symm e1]
theorem WS.set2 (h : WS w b r mb cap n x ats row left) (ats' : Int) : WS (w.setCell ⟨b, 2, none⟩ (.int .i64 ats')) b r mb cap n x ats' row left := by
  obtain ⟨cl, hcl⟩ := h.m
  have e1 := h.br; have e2 := h.bm
  refine ⟨?_, ?_, ?_, ?_, ?_, fun o => ?_, ?_, ?_, ⟨cl, (Below.heap_setCell _ _ _ _ (by simp; omega)).trans hcl⟩, h.hcap, h.hmax, h.br, h.bm, h.rm⟩ <;> simp [go_sem, h.c0, h.c1, h.c2, h.c4, h.c6, h.fb, h.cr, h.fr, e1, Ne.symm e1]
theorem WS.set6 (h : WS w b r mb cap n x ats row left) (left' : Int) : WS (w.setCell ⟨b, 6, none⟩ (.int .i64 left')) b r mb cap n x ats row left' := by
  obtain ⟨cl, hcl⟩ := h.m
  have e1 := h.br; have e2 := h.bm
  refine ⟨?_, ?_, ?_, ?_, ?_, fun o => ?_, ?_, ?_, ⟨cl, (Below.heap_setCell _ _ _ _ (by simp; omega)).trans hcl⟩, h.hcap, h.hmax, h.br, h.bm, h.rm⟩ <;> simp [go_sem, h.c0, h.c1, h.c2, h.c4, h.c6, h.fb, h.cr, h.fr, e1, Ne.symm e1]
theorem WS.set0 (h : WS w b r mb cap n x ats row left) (n' : Nat) : WS (w.setCell ⟨b, 0, none⟩ (.slice (some ⟨r, 0, none⟩) n' cap)) b r mb cap n' x ats row left := by
  obtain ⟨cl, hcl⟩ := h.m
  have e1 := h.br; have e2 := h.bm
  refine ⟨?_, ?_, ?_, ?_, ?_, fun o => ?_, ?_, ?_, ⟨cl, (Below.heap_setCell _ _ _ _ (by simp; omega)).trans hcl⟩, h.hcap, h.hmax, h.br, h.bm, h.rm⟩ <;> simp [go_sem, h.c0, h.c1, h.c2, h.c4, h.c6, h.fb, h.cr, h.fr, e1, Ne.symm e1]
theorem WS.setR (h : WS w b r mb cap n x ats row left) (y : Value) : WS (w.setCell ⟨r, 0, none⟩ y) b r mb cap n y ats row left := by
  obtain ⟨cl, hcl⟩ := h.m
  have e1 := h.br; have e2 := h.rm
  refine ⟨?_, ?_, ?_, ?_, ?_, fun o => ?_, ?_, ?_, ⟨cl, (Below.heap_setCell _ _ _ _ (by simp; omega)).trans hcl⟩, h.hcap, h.hmax, h.br, h.bm, h.rm⟩ <;> simp [go_sem, h.c0, h.c1, h.c2, h.c4, h.c6, h.fb, h.cr, h.fr, e1, Ne.symm e1]
end
/-- The blocks of a walk that change. -/
def two (b r : Nat) (k : Nat) : Prop := k = b ∨ k = r

set_option maxRecDepth 100000 in
set_option maxHeartbeats 1000000 in
theorem goesOn_no {w : World} {b r mb cap : Nat} {x : Value} {ats row left : Int} (h : WS w b r mb cap 0 x ats row left) :
    Calls Tryd.prog 45 #[.pointer (some ⟨b, 0, none⟩)] w fun e w' => e = .returned (.bool false) ∧ w = w' := by
  have c0 := h.c0
  go_enter Tryd.func45, Tryd.ntmps45
  go_wp2
  go_ret
  exact ⟨rfl, rfl⟩
set_option maxRecDepth 100000 in
set_option maxHeartbeats 1000000 in
theorem goesOn_yes {w : World} {b r mb cap : Nat} {x : Value} {ats row left : Int} (h : WS w b r mb cap 1 x ats row left) (hl : 0 < left) :
    Calls Tryd.prog 45 #[.pointer (some ⟨b, 0, none⟩)] w fun e w' => e = .returned (.bool true) ∧ w = w' := by
  have c0 := h.c0
  have c6 := h.c6
  go_enter Tryd.func45, Tryd.ntmps45
  go_wp2
  go_ret
  exact ⟨rfl, rfl⟩
set_option maxRecDepth 100000 in
set_option maxHeartbeats 1000000 in
theorem add_nil (w : World) (p : Value) :
    Calls Tryd.prog 44 #[p, .nilIface] w fun e w' => e = .returned (.tuple #[]) ∧ w = w' := by
  go_enter Tryd.func44, Tryd.ntmps44
  go_wp2
  go_end0
  exact ⟨rfl, rfl⟩
set_option maxRecDepth 100000 in
set_option maxHeartbeats 1000000 in
theorem add_some {w : World} {b r mb cap : Nat} {x : Value} {ats row left : Int} (t : TypeId) (u : Value) (h : WS w b r mb cap 0 x ats row left) :
    Calls Tryd.prog 44 #[.pointer (some ⟨b, 0, none⟩), .iface t u] w fun e w' => e = .returned (.tuple #[]) ∧ WS w' b r mb cap 1 (.iface t u) ats row left ∧ Keeps (two b r) w w' := by
  have c0 := h.c0
  have cr := h.cr
  have fr := h.fr
  have fb := h.fb
  have hcap := h.hcap
  have hmax := h.hmax
  have br := h.br
  have lb := World.block_lt_of_cell? w _ h.c0
  have lr := World.block_lt_of_cell? w _ h.cr
  simp only at lb lr
  have H := Lib.hid h
  clear h
  unfold maxLen at hmax
  go_enter Tryd.func44, Tryd.ntmps44
  go_wp2
  go_end0
  exact ⟨rfl, ((H.out.setR _).set0 1).keep (S := fun _ => False) ((Keeps.refl _ _).alloc _) id id id, (((Keeps.refl _ _).setCell (.inr rfl) _).setCell (.inl rfl) _).alloc _⟩
end Fk
end Go.Proofs.YtjiekjfbllinbaaDoor
