/- FaultsFirst: the law's own loop, told of; what a round does to it. -/
import Derived.Test.YtlmfjaaooklhnaaDoorFFirst
import Derived.Test.YtlmfjaaooklhnaaDoorFKindF
import Derived.Deep.RegionHeld3
import Derived.Deep.AppendLies
import Derived.BigQuiet
import Derived.Deep.QuietTactic
namespace Go.Proofs.YtlmfjaaooklhnaaDoor
open Go.ChangeShapes Go.WideShapes Go.ChangeAt Go.RowKit Go.Extern.Stop Go.Stop Go.Extern
namespace Fk
set_option linter.unusedVariables false
set_option linter.unusedSimpArgs false
theorem pick_snoc (xs : List El) (x : El) : pick (xs ++ [x]) = step (pick xs) x := by unfold pick; rw [List.foldl_append]; rfl
theorem ElOk.keep {w w' : World} {x : El} (h : ElOk w x) (hk : ∀ b l c k, x = some (b, l, c, k) → w'.heap[b]? = w.heap[b]?) : ElOk w' x := by
  rcases x with _ | ⟨b, l, c, k⟩
  · trivial
  · obtain ⟨pb, po, u, he, c0, c1, c3, c4, hu⟩ := h
    simp only [Value.iface.injEq, true_and, Value.pointer.injEq, Option.some.injEq, Addr.mk.injEq, and_true] at he
    obtain ⟨rfl, rfl⟩ := he
    have e := fun o => World.cell?_of_block (w := w) (w' := w') (a := ⟨b, o, none⟩) (hk b l c k rfl)
    exact ⟨b, 0, u, rfl, (e _).trans c0, (e _).trans c1, (e _).trans c3, (e _).trans c4, hu⟩
theorem ElOk.lt {w : World} {b : Nat} {l c k : Int} (h : ElOk w (some (b, l, c, k))) : b < w.heap.size := by
  obtain ⟨pb, po, u, he, c0, _⟩ := h
  simp only [Value.iface.injEq, true_and, Value.pointer.injEq, Option.some.injEq, Addr.mk.injEq, and_true] at he
  obtain ⟨rfl, rfl⟩ := he
  exact World.block_lt_of_cell? w _ c0
/-- How far the law's loop is: L, C, K: what came in. -/
structure FInv (W : World) (L C K : Nat → Int) (k : Nat) (lv bv : Value) (w : World) (xs : List El) : Prop where
  len : xs.length = k
  own : w.ownsRow W.heap.size 29 1 lv k (xs.map ev)
  ok : ∀ x ∈ xs, ElOk w x
  far : ∀ b l c e, some (b, l, c, e) ∈ xs → lv.ownBlock ≠ some b
  below : Below W.heap.size W w
  best : (pick xs = none ∧ bv = .int .i64 (-1)) ∨ ∃ j, j < k ∧ ∃ b, pick xs = some (b, L j, C j, 1 + K j % 12) ∧ bv = .int .i64 j
theorem FInv.start (W : World) (L C K : Nat → Int) : FInv W L C K 0 (.slice none 0 0) (.int .i64 (-1)) W [] :=
  ⟨rfl, World.ownsRow_nil _ _ _ _, fun _ h => (by simp at h), fun _ _ _ _ h => (by simp at h), Below.refl _ _, .inl ⟨rfl, rfl⟩⟩
/-- Behind the append of an element. -/
theorem FInv.push {W : World} {L C K : Nat → Int} {k : Nat} {lv bv bv' : Value} {wr w0 w1 w2 : World} {xs : List El} {x : El} {g cap H : Nat} {o : Obj} (h : FInv W L C K k lv bv wr xs)
    (hb : Below wr.heap.size wr w1) (hx : ElOk w1 x) (hnew : ∀ b l c e, x = some (b, l, c, e) → wr.heap.size ≤ b) (h0 : w0.heap = (w1.alloc o).heap ∧ w0.os = w1.os ∧ w0.tape = w1.tape ∧ w0.output = w1.output)
    (hown : w2.ownsRow W.heap.size 29 1 (.slice (some ⟨g, 0, none⟩) (k + 1) cap) (k + 1) (xs.map ev ++ [ev x])) (hgrow : w0.grownBy w2 lv.ownBlock) (hat : lv.ownBlock = some g ∨ g = H) (hH : H = w0.heap.size)
    (hbest : (pick (xs ++ [x]) = none ∧ bv' = .int .i64 (-1)) ∨ ∃ j, j < k + 1 ∧ ∃ b, pick (xs ++ [x]) = some (b, L j, C j, 1 + K j % 12) ∧ bv' = .int .i64 j) :
    FInv W L C K (k + 1) (.slice (some ⟨g, 0, none⟩) (k + 1) cap) bv' w2 (xs ++ [x]) := by
  obtain ⟨e0, e1, e2, e3⟩ := h0
  have hlt := h.own.lt
  have z0 : w0.heap.size = w1.heap.size + 1 := by rw [e0]; simp
  have blk : ∀ b, b < w1.heap.size → lv.ownBlock ≠ some b → w2.heap[b]? = w1.heap[b]? := fun b hb1 hne => by
    rw [hgrow.block b (by omega) (fun e => hne e.symm), e0]
    exact Lib.alloc_old w1 o b hb1
  have hold : ∀ y ∈ xs, ElOk w2 y ∧ ∀ b l c e, y = some (b, l, c, e) → b < wr.heap.size := fun y hy => by
    have hok := h.ok y hy
    refine ⟨hok.keep fun b l c e hye => ?_, fun b l c e hye => by subst hye; exact hok.lt⟩
    subst hye
    have lt := hok.lt
    rw [blk b (Nat.lt_of_lt_of_le lt hb.size) (h.far b l c e hy), hb.block b lt]
  refine ⟨by simp [h.len], by simpa using hown, ?_, ?_, ?_, hbest⟩
  · intro y hy
    simp only [List.mem_append, List.mem_singleton] at hy
    rcases hy with hy | rfl
    · exact (hold y hy).1
    · refine hx.keep fun b l c e he => ?_
      subst he
      have := hnew b l c e rfl
      refine blk b hx.lt fun hne => ?_
      have := (hlt b hne).2
      omega
  · intro b l c e hy
    simp only [List.mem_append, List.mem_singleton] at hy
    have lt : b < w1.heap.size ∧ lv.ownBlock ≠ some b := by
      rcases hy with hy | rfl
      · exact ⟨Nat.lt_of_lt_of_le ((hold _ hy).2 _ _ _ _ rfl) hb.size, h.far _ _ _ _ hy⟩
      · refine ⟨hx.lt, fun hne => ?_⟩
        have := (hlt b hne).2
        have := hnew b l c e rfl
        omega
    simp only [Value.ownBlock, ne_eq, Option.some.injEq]
    rintro rfl
    rcases hat with hat | hat
    · exact lt.2 hat
    · omega
  · have b1 : Below W.heap.size W w1 := h.below.trans (hb.mono h.below.size)
    have b2 : Below W.heap.size W w0 := b1.trans ⟨e1, e2, e3, by rw [e0]; simp, fun j hj => by rw [e0]; exact Lib.alloc_old w1 o j (Nat.lt_of_lt_of_le hj b1.size)⟩
    exact b2.grown hgrow (by have := b1.size; omega) (fun j hj => (hlt j hj).1)
theorem step_none (f : El) : step f none = f := by cases f <;> rfl
theorem step_better {f : El} {b : Nat} {l c e : Int} (h : ∀ b' l' c' e', f = some (b', l', c', e') → l < l' ∨ l = l' ∧ c < c') : step f (some (b, l, c, e)) = some (b, l, c, e) := by
  rcases f with _ | ⟨b', l', c', e'⟩
  · rfl
  · simp only [step]; rw [if_pos ((ltP_neg _ _ _ _).2 (h _ _ _ _ rfl))]
theorem step_worse {b b' : Nat} {l c e l' c' e' : Int} (h : ¬ (l < l' ∨ l = l' ∧ c < c')) : step (some (b', l', c', e')) (some (b, l, c, e)) = some (b', l', c', e') := by
  simp only [step]; rw [if_neg (fun hn => h ((ltP_neg _ _ _ _).1 hn))]
end Fk
end Go.Proofs.YtlmfjaaooklhnaaDoor
