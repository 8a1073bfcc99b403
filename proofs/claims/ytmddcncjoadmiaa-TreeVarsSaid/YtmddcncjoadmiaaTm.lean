/- Package tree's walk in memory. -/
import Derived.Test.YtmddcncjoadmiaaTw
namespace Go.Proofs.Ytmddcncjoadmiaa
open Go.ChangeShapes Go.WideShapes Go.ChangeAt Go.RowKit
namespace Tx
set_option linter.unusedVariables false
set_option linter.unusedSimpArgs false
/-- A slice of the first n of some expressions. -/
def KidSl (B : Nat → Prop) (w : World) (v : Value) (f : Fo) (n : Nat) : Prop :=
  ((∃ a c, v = .slice a 0 c) ∧ n = 0) ∨ ∃ b o cap, v = .slice (some ⟨b, o, none⟩) n cap ∧ n ≤ f.len ∧ n ≤ cap ∧ cap ≤ maxLen ∧ FoIn B w f b o
theorem KidSl.keep {B : Nat → Prop} {w w' : World} (hb : ∀ b o v, B b → w.cell? ⟨b, o, none⟩ = some v → w'.cell? ⟨b, o, none⟩ = some v) {v : Value} {f : Fo} {n : Nat} (h : KidSl B w v f n) : KidSl B w' v f n := by
  rcases h with h | ⟨b, o, cap, e, h1, h2, h3, h4⟩
  · exact .inl h
  · exact .inr ⟨b, o, cap, e, h1, h2, h3, FoIn.keep hb _ _ _ h4⟩
theorem KidsIn.sl {B : Nat → Prop} {w : World} {v : Value} {f : Fo} (h : KidsIn B w v f) : KidSl B w v f f.len := by
  rcases h with ⟨h1, rfl⟩ | ⟨b, o, cap, e, h1, h2, h3⟩
  · exact .inl ⟨h1, rfl⟩
  · exact .inr ⟨b, o, cap, e, Nat.le_refl _, h1, h2, h3⟩
structure LevIn (B : Nat → Prop) (w : World) (L : Lev) : Prop where
  sl : KidSl B w L.v L.f L.n
  le : L.i ≤ L.n
  d : 0 < L.i → ∃ ks, L.f.get (L.i - 1) = some (L.d, ks)
theorem LevIn.keep {B : Nat → Prop} {w w' : World} (hb : ∀ b o v, B b → w.cell? ⟨b, o, none⟩ = some v → w'.cell? ⟨b, o, none⟩ = some v) {L : Lev} (h : LevIn B w L) : LevIn B w' L := ⟨h.sl.keep hb, h.le, h.d⟩
def lc (L : Lev) : List Value := [L.v, .int .i64 L.i]
theorem flat_len : ∀ st : List Lev, (st.flatMap lc).length = st.length * 2
  | [] => rfl
  | L :: st => by rw [List.flatMap_cons, List.length_append, flat_len st]; simp [lc]; omega
/-- The stack of a walk, the top ahead. -/
structure Mach (B : Nat → Prop) (base : Nat) (w : World) (v : Value) (st : List Lev) : Prop where
  own : w.ownsRow base 124 2 v st.length (st.reverse.flatMap lc)
  lev : ∀ L ∈ st, LevIn B w L
/-- Where the top lies. -/
theorem Mach.top {B : Nat → Prop} {base : Nat} {w : World} {v : Value} {L : Lev} {st : List Lev} (h : Mach B base w v (L :: st)) :
    ∃ g cap, v = .slice (some ⟨g, 0, none⟩) (st.length + 1) cap ∧ st.length + 1 ≤ cap ∧ cap ≤ maxLen ∧ base ≤ g ∧ g < w.heap.size ∧
      w.cell? ⟨g, st.length * 2, none⟩ = some L.v ∧ w.cell? ⟨g, st.length * 2 + 1, none⟩ = some (.int .i64 L.i) ∧ ∀ o, w.frozen? ⟨g, o, none⟩ = false := by
  have hlt := h.own.lt
  rcases h.own.2 with ⟨_, h0⟩ | ⟨g, cap, cur, hv, hbase, hg, hcap, hmax, hsz, htake⟩
  · simp at h0
  · have hc := h.own.cells (g := g) (by rw [hv]; rfl)
    have hl := flat_len st.reverse
    rw [List.length_reverse] at hl
    have e : (L :: st).reverse.flatMap lc = st.reverse.flatMap lc ++ [L.v, .int .i64 L.i] := by simp [lc]
    have hadd : ∀ j, (⟨g, 0, none⟩ : Addr).add j = ⟨g, j, none⟩ := fun j => by unfold Addr.add; split <;> simp_all
    refine ⟨g, cap, hv, hcap, hmax, hbase, (hlt g (by rw [hv]; rfl)).2, ?_, ?_, fun o => ?_⟩
    · have := hc (st.length * 2) L.v (by rw [e, List.getElem?_append_right (by omega), hl]; simp)
      rwa [hadd] at this
    · have := hc (st.length * 2 + 1) (.int .i64 L.i) (by rw [e, List.getElem?_append_right (by omega), hl]; simp)
      rwa [hadd] at this
    · simp [World.frozen?, hg]
/-- In a world in which the stack's own block, and what the lists lie in, stay. -/
theorem Mach.keep {B S : Nat → Prop} {base : Nat} {w w' : World} {v : Value} {st : List Lev} (h : Mach B base w v st) (hk : Keeps S w w') (hg : ∀ g, v.ownBlock = some g → ¬ S g) (hB : ∀ k, B k → ¬ S k) : Mach B base w' v st := by
  refine ⟨⟨h.own.1, ?_⟩, fun L hL => (h.lev L hL).keep fun b o u hb hc => hk.cell hc (hB b hb)⟩
  rcases h.own.2 with hv | ⟨g, cap, cur, hv, h1, h2, h3⟩
  · exact .inl hv
  · exact .inr ⟨g, cap, cur, hv, h1, (hk.block g (Array.getElem?_eq_some_iff.1 h2).1 (hg g (by rw [hv]; rfl))).trans h2, h3⟩
theorem own_store {w : World} {base : Nat} {e : TypeId} {size n : Nat} {v : Value} {xs : List Value} (h : w.ownsRow base e size v n xs) {g : Nat} (hg : v.ownBlock = some g) (i : Nat) (hi : i < xs.length) (u : Value) : (w.setCell ⟨g, i, none⟩ u).ownsRow base e size v n (xs.set i u) := by
  refine ⟨by rw [List.length_set]; exact h.1, ?_⟩
  rcases h.2 with ⟨hv, _⟩ | ⟨g', cap, cur, hv, h1, h2, h3, h4, h5, h6⟩
  · rw [hv] at hg; simp [Value.ownBlock] at hg
  · rw [hv] at hg
    simp only [Value.ownBlock, Option.some.injEq] at hg
    subst hg
    refine .inr ⟨g', cap, cur.setIfInBounds i u, hv, h1, (by simp [World.setCell, Array.getElem?_modify, h2]), h3, h4, by simpa using h5, ?_⟩
    rw [Array.toList_setIfInBounds, List.take_set, h6]
/-- The top goes on by one. -/
theorem Mach.next {B : Nat → Prop} {base : Nat} {w : World} {g cap : Nat} {L : Lev} {st : List Lev} (h : Mach B base w (.slice (some ⟨g, 0, none⟩) (st.length + 1) cap) (L :: st)) (d : Dt) (ks : Fo) (hi : L.i < L.n) (hd : L.f.get L.i = some (d, ks)) (hB : ¬ B g) :
    Mach B base (w.setCell ⟨g, st.length * 2 + 1, none⟩ (.int .i64 (L.i + 1 : Nat))) (.slice (some ⟨g, 0, none⟩) (st.length + 1) cap) ({ L with i := L.i + 1, d := d } :: st) := by
  have hk : Keeps (fun k => k = g) w (w.setCell ⟨g, st.length * 2 + 1, none⟩ (.int .i64 (L.i + 1 : Nat))) := (Keeps.refl (fun k => k = g) w).setCell (p := ⟨g, st.length * 2 + 1, none⟩) rfl _
  have hlev : ∀ M, LevIn B w M → LevIn B (w.setCell ⟨g, st.length * 2 + 1, none⟩ (.int .i64 (L.i + 1 : Nat))) M := fun M hM => hM.keep fun b o u hb hc => hk.cell hc (fun e => hB (e ▸ hb))
  refine ⟨?_, ?_⟩
  · have := own_store h.own (g := g) rfl (st.length * 2 + 1) (by have := flat_len (L :: st).reverse; rw [this]; simp; omega) (.int .i64 (L.i + 1 : Nat))
    have e : ((L :: st).reverse.flatMap lc).set (st.length * 2 + 1) (.int .i64 (L.i + 1 : Nat)) = (({ L with i := L.i + 1, d := d } :: st).reverse.flatMap lc) := by
      have hl := flat_len st.reverse
      rw [List.length_reverse] at hl
      simp only [List.reverse_cons, List.flatMap_append]
      rw [List.set_append_right _ _ (by omega), hl]
      simp [lc]
    rw [e] at this
    exact this
  · intro M hM
    simp only [List.mem_cons] at hM
    rcases hM with rfl | hM
    · have := hlev L (h.lev L (by simp))
      exact ⟨this.sl, hi, fun _ => ⟨ks, by simpa using hd⟩⟩
    · exact hlev M (h.lev M (by simp [hM]))
/-- The top is taken off. -/
theorem Mach.pop {B : Nat → Prop} {base : Nat} {w : World} {g cap : Nat} {L : Lev} {st : List Lev} (h : Mach B base w (.slice (some ⟨g, 0, none⟩) (st.length + 1) cap) (L :: st)) : Mach B base w (.slice (some ⟨g, 0, none⟩) st.length cap) st := by
  refine ⟨?_, fun M hM => h.lev M (by simp [hM])⟩
  have hl := flat_len st.reverse
  rw [List.length_reverse] at hl
  refine ⟨hl, .inr ?_⟩
  rcases h.own.2 with ⟨hv, _⟩ | ⟨g', cap', cur, hv, h1, h2, h3, h4, h5, h6⟩
  · cases hv
  · cases hv
    refine ⟨g, cap, cur, rfl, h1, h2, by simp at h3; omega, h4, h5, ?_⟩
    have e : (L :: st).reverse.flatMap lc = st.reverse.flatMap lc ++ lc L := by simp
    rw [e] at h6
    have := congrArg (List.take (st.length * 2)) h6
    rw [List.take_take, List.take_append_of_le_length (by omega), List.take_of_length_le (by omega : (st.reverse.flatMap lc).length ≤ st.length * 2)] at this
    rw [← this]
    congr 1
    simp only [List.length_cons]
    omega
end Tx
end Go.Proofs.Ytmddcncjoadmiaa
