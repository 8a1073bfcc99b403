/- Package tree's walk through an expression: what it does with whatever it calls. -/
import Derived.Test.YtmddcncjoadmiaaTx
import Derived.OwnWalk
import Derived.WalkSpells
import Derived.Deep.Draws
import Derived.Deep.LoopGhost
import Derived.Deep.AppendLies
import Derived.RegionTactic
import Derived.BigRegion
import Derived.BigQuiet
import Derived.Deep.QuietTactic
import Derived.Deep.RegionWith
namespace Go.Proofs.Ytmddcncjoadmiaa
open Go.ChangeShapes Go.WideShapes Go.ChangeAt Go.RowKit
namespace Tx
set_option linter.unusedVariables false
set_option linter.unusedSimpArgs false
/-- What is not among some blocks stays. -/
structure Keeps (S : Nat → Prop) (w w' : World) : Prop where
  os : w'.os = w.os
  tape : w'.tape = w.tape
  output : w'.output = w.output
  size : w.heap.size ≤ w'.heap.size
  block : ∀ k, k < w.heap.size → ¬ S k → w'.heap[k]? = w.heap[k]?
theorem Keeps.refl (S : Nat → Prop) (w : World) : Keeps S w w := ⟨rfl, rfl, rfl, Nat.le_refl _, fun _ _ _ => rfl⟩
theorem Keeps.trans {S : Nat → Prop} {a b c : World} (h : Keeps S a b) (k : Keeps S b c) : Keeps S a c :=
  ⟨k.os.trans h.os, k.tape.trans h.tape, k.output.trans h.output, Nat.le_trans h.size k.size, fun i hi hs => (k.block i (Nat.lt_of_lt_of_le hi h.size) hs).trans (h.block i hi hs)⟩
theorem Keeps.below {S : Nat → Prop} {w w' : World} (h : Below w.heap.size w w') : Keeps S w w' := ⟨h.os, h.tape, h.output, h.size, fun k hk _ => h.block k hk⟩
theorem Keeps.alloc {S : Nat → Prop} {a w : World} (h : Keeps S a w) (o : Obj) : Keeps S a (w.alloc o) := h.trans (Keeps.below ((Below.refl _ _).alloc (Nat.le_refl _) _))
theorem Keeps.setCell {S : Nat → Prop} {a w : World} (h : Keeps S a w) {p : Addr} (hp : S p.block) (u : Value) : Keeps S a (w.setCell p u) :=
  h.trans ⟨rfl, rfl, rfl, by simp, fun k hk hs => Below.heap_setCell w p u k (fun e => hs (e ▸ hp))⟩
theorem Keeps.drewN {S : Nat → Prop} {a w : World} (h : Keeps S a w) (n : Nat) : Keeps S a (w.drewN n) := h.trans ⟨rfl, rfl, rfl, Nat.le_refl _, fun _ _ _ => rfl⟩
theorem Keeps.cell {S : Nat → Prop} {w w' : World} (h : Keeps S w w') {b o : Nat} {v : Value} (hc : w.cell? ⟨b, o, none⟩ = some v) (hs : ¬ S b) : w'.cell? ⟨b, o, none⟩ = some v :=
  (World.cell?_of_block (h.block b (World.block_lt_of_cell? w ⟨b, o, none⟩ hc) hs)).trans hc
theorem Keeps.mono {S T : Nat → Prop} {w w' : World} (h : Keeps S w w') (hST : ∀ k, k < w.heap.size → S k → T k) : Keeps T w w' :=
  ⟨h.os, h.tape, h.output, h.size, fun k hk ht => h.block k hk (fun hs => ht (hST k hk hs))⟩

section
variable {σ : Type} (ent : σ → Dt → σ) (sel : σ → Dt → Fo → Nat) (lv : σ → Dt → σ)
/-- What the walk does to the first n of some expressions side by side, each with its kids. -/
def wk : Fo → Nat → σ → σ
  | .nil, _, s => s
  | .cons _ _ _, 0, s => s
  | .cons d ks r, n + 1, s => wk r n (lv (wk ks (sel (ent s d) d ks) (ent s d)) d)
theorem wk_zero (f : Fo) (s : σ) : wk ent sel lv f 0 s = s := by cases f <;> rfl
/-- A list on the way: its expressions, how many of them, how many have been begun, and what the last of these is. -/
structure Lev where
  v : Value
  n : Nat
  i : Nat
  f : Fo
  d : Dt
/-- What is left to be done. -/
def fin : List Lev → σ → σ
  | [], s => s
  | [L], s => wk ent sel lv (L.f.drop L.i) (L.n - L.i) s
  | L :: A :: st, s => fin (A :: st) (lv (wk ent sel lv (L.f.drop L.i) (L.n - L.i) s) A.d)
def fin1 : List Lev → σ → σ
  | [], s => s
  | A :: st, s => fin ent sel lv (A :: st) (lv s A.d)
theorem fin_cons (L : Lev) (st : List Lev) (s : σ) : fin ent sel lv (L :: st) s = fin1 ent sel lv st (wk ent sel lv (L.f.drop L.i) (L.n - L.i) s) := by cases st <;> rfl
theorem fin_push (L : Lev) (st : List Lev) (s : σ) (d : Dt) (ks : Fo) (v : Value) (d' : Dt) (hi : L.i < L.n) (hg : L.f.get L.i = some (d, ks)) :
    fin ent sel lv (L :: st) s = fin ent sel lv (⟨v, sel (ent s d) d ks, 0, ks, d'⟩ :: { L with i := L.i + 1, d := d } :: st) (ent s d) := by
  rw [fin_cons, Fo.get_drop L.f L.i d ks hg, show L.n - L.i = (L.n - (L.i + 1)) + 1 by omega]
  rw [fin_cons]
  show fin1 ent sel lv st (wk ent sel lv (L.f.drop (L.i + 1)) (L.n - (L.i + 1)) _) = fin ent sel lv (_ :: st) _
  rw [fin_cons]
  cases ks <;> rfl
theorem fin_pop (L : Lev) (st : List Lev) (s : σ) (hi : ¬ L.i < L.n) : fin ent sel lv (L :: st) s = fin1 ent sel lv st s := by
  rw [fin_cons, show L.n - L.i = 0 by omega, wk_zero]
end
def Fo.rest (f : Fo) (i : Nat) : Nat := (f.drop i).size
/-- How many rounds are left at most. -/
def todo : List Lev → Nat
  | [] => 0
  | L :: st => 1 + 2 * L.f.rest L.i + todo st
theorem rest_get (f : Fo) (i : Nat) (d : Dt) (ks : Fo) (h : f.get i = some (d, ks)) : f.rest i = 1 + ks.size + f.rest (i + 1) := by
  unfold Fo.rest
  rw [Fo.get_drop f i d ks h]
  rfl
theorem todo_push (L : Lev) (st : List Lev) (d : Dt) (ks : Fo) (v : Value) (n : Nat) (d' : Dt) (hg : L.f.get L.i = some (d, ks)) : todo (⟨v, n, 0, ks, d'⟩ :: { L with i := L.i + 1, d := d } :: st) < todo (L :: st) := by
  have h := rest_get L.f L.i d ks hg
  have h0 : ks.rest 0 = ks.size := by unfold Fo.rest; cases ks <;> rfl
  simp only [todo]
  rw [h, h0]
  omega
theorem todo_len : ∀ st : List Lev, st.length ≤ todo st
  | [] => Nat.le_refl _
  | L :: st => by have := todo_len st; simp only [List.length_cons, todo]; omega
end Tx
end Go.Proofs.Ytmddcncjoadmiaa
