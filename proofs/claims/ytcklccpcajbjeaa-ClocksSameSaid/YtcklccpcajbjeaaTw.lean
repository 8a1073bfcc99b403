/- Package tree's walk through an expression: what it does with whatever it calls. -/
import Derived.Test.YtcklccpcajbjeaaTx
import Derived.OwnWalk
import Derived.WalkSpells
import Derived.Deep.Draws
import Derived.Deep.LoopGhost
import Derived.Deep.AppendLies
import Derived.RegionTactic
import Derived.BigRegion
import Derived.BigQuiet
import Derived.Deep.QuietTactic
import Derived.Deep.RegionWith
namespace Go.Proofs.Ytcklccpcajbjeaa
open Go.ChangeShapes Go.WideShapes Go.ChangeAt Go.RowKit
namespace Tx
set_option linter.unusedVariables false
set_option linter.unusedSimpArgs false
/-- What is not among some blocks stays. -/
structure Keeps (S : Nat → Prop) (w w' : World) : Prop where
  os : w'.os = w.os
  tape : w'.tape = w.tape
  output : w'.output = w.output
  size : w.heap.size ≤ w'.heap.size
  block : ∀ k, k < w.heap.size → ¬ S k → w'.heap[k]? = w.heap[k]?
theorem Keeps.refl (S : Nat → Prop) (w : World) : Keeps S w w := ⟨rfl, rfl, rfl, Nat.le_refl _, fun _ _ _ => rfl⟩
theorem Keeps.trans {S : Nat → Prop} {a b c : World} (h : Keeps S a b) (k : Keeps S b c) : Keeps S a c :=
  ⟨k.os.trans h.os, k.tape.trans h.tape, k.output.trans h.output, Nat.le_trans h.size k.size, fun i hi hs => (k.block i (Nat.lt_of_lt_of_le hi h.size) hs).trans (h.block i hi hs)⟩
theorem Keeps.below {S : Nat → Prop} {w w' : World} (h : Below w.heap.size w w') : Keeps S w w' := ⟨h.os, h.tape, h.output, h.size, fun k hk _ => h.block k hk⟩
theorem Keeps.alloc {S : Nat → Prop} {a w : World} (h : Keeps S a w) (o : Obj) : Keeps S a (w.alloc o) := h.trans (Keeps.below ((Below.refl _ _).alloc (Nat.le_refl _) _))
theorem Keeps.setCell {S : Nat → Prop} {a w : World} (h : Keeps S a w) {p : Addr} (hp : S p.block) (u : Value) : Keeps S a (w.setCell p u) :=
  h.trans ⟨rfl, rfl, rfl, by simp, fun k hk hs => Below.heap_setCell w p u k (fun e => hs (e ▸ hp))⟩
theorem Keeps.drewN {S : Nat → Prop} {a w : World} (h : Keeps S a w) (n : Nat) : Keeps S a (w.drewN n) := h.trans ⟨rfl, rfl, rfl, Nat.le_refl _, fun _ _ _ => rfl⟩
theorem Keeps.cell {S : Nat → Prop} {w w' : World} (h : Keeps S w w') {b o : Nat} {v : Value} (hc : w.cell? ⟨b, o, none⟩ = some v) (hs : ¬ S b) : w'.cell? ⟨b, o, none⟩ = some v :=
  (World.cell?_of_block (h.block b (World.block_lt_of_cell? w ⟨b, o, none⟩ hc) hs)).trans hc
theorem Keeps.mono {S T : Nat → Prop} {w w' : World} (h : Keeps S w w') (hST : ∀ k, k < w.heap.size → S k → T k) : Keeps T w w' :=
  ⟨h.os, h.tape, h.output, h.size, fun k hk ht => h.block k hk (fun hs => ht (hST k hk hs))⟩

section
variable {σ : Type} (ent : σ → Dt → σ) (sel : σ → Dt → Fo → Nat) (lv : σ → Dt → σ) (stop : σ → Bool)
/-- What the walk does to the first n of some expressions side by side, each with its kids; up to where it stops. -/
def wk : Fo → Nat → σ → σ
  | .nil, _, s => s
  | .cons _ _ _, 0, s => s
  | .cons d ks r, n + 1, s =>
    if stop (wk ks (sel (ent s d) d ks) (ent s d)) = true then wk ks (sel (ent s d) d ks) (ent s d) else
      if stop (lv (wk ks (sel (ent s d) d ks) (ent s d)) d) = true then lv (wk ks (sel (ent s d) d ks) (ent s d)) d else wk r n (lv (wk ks (sel (ent s d) d ks) (ent s d)) d)
theorem wk_zero (f : Fo) (s : σ) : wk ent sel lv stop f 0 s = s := by cases f <;> rfl
/-- An expression on the way: where it lies, those of its kids that are left, how many of them, and what it is. -/
structure Lev where
  a : Value
  v : Value
  n : Nat
  f : Fo
  d : Dt
/-- What is left to be done. -/
def fin : List Lev → σ → σ
  | [], s => s
  | L :: st, s =>
    if stop (wk ent sel lv stop L.f L.n s) = true then wk ent sel lv stop L.f L.n s else
      if stop (lv (wk ent sel lv stop L.f L.n s) L.d) = true then lv (wk ent sel lv stop L.f L.n s) L.d else fin st (lv (wk ent sel lv stop L.f L.n s) L.d)
theorem fin_push (a v n d f st s a' v' d1 ks r) (hf : f = Fo.cons d1 ks r) :
    fin ent sel lv stop (⟨a, v, n + 1, f, d⟩ :: st) s = fin ent sel lv stop (⟨a', v', sel (ent s d1) d1 ks, ks, d1⟩ :: ⟨a, v, n, r, d⟩ :: st) (ent s d1) := by
  subst hf
  simp only [fin, wk]
  by_cases h1 : stop (wk ent sel lv stop ks (sel (ent s d1) d1 ks) (ent s d1)) = true
  · simp only [if_pos h1]
  · simp only [if_neg h1]
    by_cases h2 : stop (lv (wk ent sel lv stop ks (sel (ent s d1) d1 ks) (ent s d1)) d1) = true
    · simp only [if_pos h2]
    · simp only [if_neg h2]
theorem fin_pop (L : Lev) (st : List Lev) (s : σ) (hn : L.n = 0) (hs : stop s = false) : fin ent sel lv stop (L :: st) s = if stop (lv s L.d) = true then lv s L.d else fin ent sel lv stop st (lv s L.d) := by
  simp only [fin]
  rw [hn, wk_zero, if_neg (by rw [hs]; decide)]
theorem fin_root (a v d ks) (s : σ) : fin ent sel lv stop [⟨a, v, sel (ent s d) d ks, ks, d⟩] (ent s d) = wk ent sel lv stop (.cons d ks .nil) 1 s := by
  simp only [fin, wk]
end
/-- How many rounds are left at most. -/
def todo : List Lev → Nat
  | [] => 0
  | L :: st => 1 + 2 * L.f.size + todo st
theorem todo_push (a v d n f a' v' m d1 ks r v2 n2) (st : List Lev) (hf : f = Fo.cons d1 ks r) : todo (⟨a', v', m, ks, d1⟩ :: ⟨a, v2, n2, r, d⟩ :: st) < todo (⟨a, v, n, f, d⟩ :: st) := by
  subst hf
  simp only [todo, Fo.size]
  omega
theorem todo_len : ∀ st : List Lev, st.length ≤ todo st
  | [] => Nat.le_refl _
  | L :: st => by have := todo_len st; simp only [List.length_cons, todo]; omega
end Tx
end Go.Proofs.Ytcklccpcajbjeaa
