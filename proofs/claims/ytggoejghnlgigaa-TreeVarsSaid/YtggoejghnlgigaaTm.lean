/- Package tree's walk in memory. -/
import Derived.Test.YtggoejghnlgigaaTw
namespace Go.Proofs.Ytggoejghnlgigaa
open Go.ChangeShapes Go.WideShapes Go.ChangeAt Go.RowKit
namespace Tx
set_option linter.unusedVariables false
set_option linter.unusedSimpArgs false
/-- A slice of the first n of some expressions. -/
def KidSl (B : Nat → Prop) (w : World) (v : Value) (f : Fo) (n : Nat) : Prop :=
  ((∃ a c, v = .slice a 0 c) ∧ n = 0) ∨ ∃ b o cap, v = .slice (some ⟨b, o, none⟩) n cap ∧ n ≤ f.len ∧ n ≤ cap ∧ cap ≤ maxLen ∧ FoIn B w f b o
theorem KidSl.keep {B : Nat → Prop} {w w' : World} (hb : ∀ b o v, B b → w.cell? ⟨b, o, none⟩ = some v → w'.cell? ⟨b, o, none⟩ = some v) {v : Value} {f : Fo} {n : Nat} (h : KidSl B w v f n) : KidSl B w' v f n := by
  rcases h with h | ⟨b, o, cap, e, h1, h2, h3, h4⟩
  · exact .inl h
  · exact .inr ⟨b, o, cap, e, h1, h2, h3, FoIn.keep hb _ _ _ h4⟩
theorem KidsIn.sl {B : Nat → Prop} {w : World} {v : Value} {f : Fo} (h : KidsIn B w v f) : KidSl B w v f f.len := by
  rcases h with ⟨h1, rfl⟩ | ⟨b, o, cap, e, h1, h2, h3⟩
  · exact .inl ⟨h1, rfl⟩
  · exact .inr ⟨b, o, cap, e, Nat.le_refl _, h1, h2, h3⟩
/-- An expression lies at an address. -/
structure ExAt (P : Nat → Prop) (w : World) (b o : Nat) (d : Dt) (ks : Fo) (nv kv : Value) : Prop where
  blk : P b
  cell : ∀ j v, (cells d nv kv)[j]? = some v → w.cell? ⟨b, o + j, none⟩ = some v
  names : NamesIn P w nv d.ns
  kids : KidsIn P w kv ks
theorem ExAt.keepB {B : Nat → Prop} {w w' : World} {b o : Nat} {d : Dt} {ks : Fo} {nv kv : Value} (hb : ∀ b o v, B b → w.cell? ⟨b, o, none⟩ = some v → w'.cell? ⟨b, o, none⟩ = some v) (h : ExAt B w b o d ks nv kv) : ExAt B w' b o d ks nv kv :=
  ⟨h.blk, fun j v hj => hb _ _ _ h.blk (h.cell j v hj), h.names.keep hb, h.kids.keep hb⟩
theorem ExAt.mono {B B' : Nat → Prop} (hB : ∀ k, B k → B' k) {w : World} {b o : Nat} {d : Dt} {ks : Fo} {nv kv : Value} (h : ExAt B w b o d ks nv kv) : ExAt B' w b o d ks nv kv := ⟨hB _ h.blk, h.cell, h.names.mono hB, h.kids.mono hB⟩
structure LevIn (B : Nat → Prop) (w : World) (L : Lev) : Prop where
  sl : KidSl B w L.v L.f L.n
  ex : ∃ b o ks nv kv, L.a = .pointer (some ⟨b, o, none⟩) ∧ ExAt B w b o L.d ks nv kv
theorem LevIn.keep {B : Nat → Prop} {w w' : World} (hb : ∀ b o v, B b → w.cell? ⟨b, o, none⟩ = some v → w'.cell? ⟨b, o, none⟩ = some v) {L : Lev} (h : LevIn B w L) : LevIn B w' L := by
  refine ⟨h.sl.keep hb, ?_⟩
  obtain ⟨b, o, ks, nv, kv, e, hx⟩ := h.ex
  exact ⟨b, o, ks, nv, kv, e, hx.keepB hb⟩
def lc (L : Lev) : List Value := [L.a, L.v]
theorem flat_len : ∀ st : List Lev, (st.flatMap lc).length = st.length * 2
  | [] => rfl
  | L :: st => by rw [List.flatMap_cons, List.length_append, flat_len st]; simp [lc]; omega
/-- The stack of a walk, the top ahead. -/
structure Mach (B : Nat → Prop) (base : Nat) (w : World) (v : Value) (st : List Lev) : Prop where
  own : w.ownsRow base 94 2 v st.length (st.reverse.flatMap lc)
  lev : ∀ L ∈ st, LevIn B w L
/-- Where the top lies. -/
theorem Mach.top {B : Nat → Prop} {base : Nat} {w : World} {v : Value} {L : Lev} {st : List Lev} (h : Mach B base w v (L :: st)) :
    ∃ g cap, v = .slice (some ⟨g, 0, none⟩) (st.length + 1) cap ∧ st.length + 1 ≤ cap ∧ cap ≤ maxLen ∧ base ≤ g ∧ g < w.heap.size ∧
      w.cell? ⟨g, st.length * 2, none⟩ = some L.a ∧ w.cell? ⟨g, st.length * 2 + 1, none⟩ = some L.v ∧ ∀ o, w.frozen? ⟨g, o, none⟩ = false := by
  have hlt := h.own.lt
  rcases h.own.2 with ⟨_, h0⟩ | ⟨g, cap, cur, hv, hbase, hg, hcap, hmax, hsz, htake⟩
  · simp at h0
  · have hc := h.own.cells (g := g) (by rw [hv]; rfl)
    have hl := flat_len st.reverse
    rw [List.length_reverse] at hl
    have e : (L :: st).reverse.flatMap lc = st.reverse.flatMap lc ++ [L.a, L.v] := by simp [lc]
    have hadd : ∀ j, (⟨g, 0, none⟩ : Addr).add j = ⟨g, j, none⟩ := fun j => by unfold Addr.add; split <;> simp_all
    refine ⟨g, cap, hv, hcap, hmax, hbase, (hlt g (by rw [hv]; rfl)).2, ?_, ?_, fun o => ?_⟩
    · have := hc (st.length * 2) L.a (by rw [e, List.getElem?_append_right (by omega), hl]; simp)
      rwa [hadd] at this
    · have := hc (st.length * 2 + 1) L.v (by rw [e, List.getElem?_append_right (by omega), hl]; simp)
      rwa [hadd] at this
    · simp [World.frozen?, hg]
/-- In a world in which the stack's own block, and what the lists lie in, stay. -/
theorem Mach.keep {B S : Nat → Prop} {base : Nat} {w w' : World} {v : Value} {st : List Lev} (h : Mach B base w v st) (hk : Keeps S w w') (hg : ∀ g, v.ownBlock = some g → ¬ S g) (hB : ∀ k, B k → ¬ S k) : Mach B base w' v st := by
  refine ⟨⟨h.own.1, ?_⟩, fun L hL => (h.lev L hL).keep fun b o u hb hc => hk.cell hc (hB b hb)⟩
  rcases h.own.2 with hv | ⟨g, cap, cur, hv, h1, h2, h3⟩
  · exact .inl hv
  · exact .inr ⟨g, cap, cur, hv, h1, (hk.block g (Array.getElem?_eq_some_iff.1 h2).1 (hg g (by rw [hv]; rfl))).trans h2, h3⟩
theorem own_store {w : World} {base : Nat} {e : TypeId} {size n : Nat} {v : Value} {xs : List Value} (h : w.ownsRow base e size v n xs) {g : Nat} (hg : v.ownBlock = some g) (i : Nat) (hi : i < xs.length) (u : Value) : (w.setCell ⟨g, i, none⟩ u).ownsRow base e size v n (xs.set i u) := by
  refine ⟨by rw [List.length_set]; exact h.1, ?_⟩
  rcases h.2 with ⟨hv, _⟩ | ⟨g', cap, cur, hv, h1, h2, h3, h4, h5, h6⟩
  · rw [hv] at hg; simp [Value.ownBlock] at hg
  · rw [hv] at hg
    simp only [Value.ownBlock, Option.some.injEq] at hg
    subst hg
    refine .inr ⟨g', cap, cur.setIfInBounds i u, hv, h1, (by simp [World.setCell, Array.getElem?_modify, h2]), h3, h4, by simpa using h5, ?_⟩
    rw [Array.toList_setIfInBounds, List.take_set, h6]
/-- The top goes on by one. -/
theorem Mach.next {B : Nat → Prop} {base : Nat} {w : World} {g cap : Nat} {a v : Value} {n : Nat} {f : Fo} {d : Dt} {st : List Lev} (h : Mach B base w (.slice (some ⟨g, 0, none⟩) (st.length + 1) cap) (⟨a, v, n, f, d⟩ :: st)) (v' : Value) (m : Nat) (r : Fo) (hs : KidSl B w v' r m) (hB : ¬ B g) :
    Mach B base (w.setCell ⟨g, st.length * 2 + 1, none⟩ v') (.slice (some ⟨g, 0, none⟩) (st.length + 1) cap) (⟨a, v', m, r, d⟩ :: st) := by
  have hk : Keeps (fun k => k = g) w (w.setCell ⟨g, st.length * 2 + 1, none⟩ v') := (Keeps.refl (fun k => k = g) w).setCell (p := ⟨g, st.length * 2 + 1, none⟩) rfl _
  have kp : ∀ b o u, B b → w.cell? ⟨b, o, none⟩ = some u → (w.setCell ⟨g, st.length * 2 + 1, none⟩ v').cell? ⟨b, o, none⟩ = some u := fun b o u hb hc => hk.cell hc (fun e => hB (e ▸ hb))
  refine ⟨?_, ?_⟩
  · have := own_store h.own (g := g) rfl (st.length * 2 + 1) (by have := flat_len (⟨a, v, n, f, d⟩ :: st).reverse; rw [this]; simp; omega) v'
    have e : ((⟨a, v, n, f, d⟩ :: st : List Lev).reverse.flatMap lc).set (st.length * 2 + 1) v' = ((⟨a, v', m, r, d⟩ :: st : List Lev).reverse.flatMap lc) := by
      have hl := flat_len st.reverse
      rw [List.length_reverse] at hl
      simp only [List.reverse_cons, List.flatMap_append]
      rw [List.set_append_right _ _ (by omega), hl]
      simp [lc]
    rw [e] at this
    exact this
  · intro M hM
    simp only [List.mem_cons] at hM
    rcases hM with rfl | hM
    · exact ⟨hs.keep kp, ((h.lev ⟨a, v, n, f, d⟩ (by simp)).keep kp).ex⟩
    · exact (h.lev M (by simp [hM])).keep kp
/-- The top is taken off. -/
theorem Mach.pop {B : Nat → Prop} {base : Nat} {w : World} {g cap : Nat} {L : Lev} {st : List Lev} (h : Mach B base w (.slice (some ⟨g, 0, none⟩) (st.length + 1) cap) (L :: st)) : Mach B base w (.slice (some ⟨g, 0, none⟩) st.length cap) st := by
  refine ⟨?_, fun M hM => h.lev M (by simp [hM])⟩
  have hl := flat_len st.reverse
  rw [List.length_reverse] at hl
  refine ⟨hl, .inr ?_⟩
  rcases h.own.2 with ⟨hv, _⟩ | ⟨g', cap', cur, hv, h1, h2, h3, h4, h5, h6⟩
  · cases hv
  · cases hv
    refine ⟨g, cap, cur, rfl, h1, h2, by simp at h3; omega, h4, h5, ?_⟩
    have e : (L :: st).reverse.flatMap lc = st.reverse.flatMap lc ++ lc L := by simp
    rw [e] at h6
    have := congrArg (List.take (st.length * 2)) h6
    rw [List.take_take, List.take_append_of_le_length (by omega), List.take_of_length_le (by omega : (st.reverse.flatMap lc).length ≤ st.length * 2)] at this
    rw [← this]
    congr 1
    simp only [List.length_cons]
    omega
end Tx
end Go.Proofs.Ytggoejghnlgigaa
