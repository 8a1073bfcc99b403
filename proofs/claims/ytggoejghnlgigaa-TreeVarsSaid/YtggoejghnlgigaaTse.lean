/- Two lists of expressions compared: what is left to compare lies in a slice. -/
import Derived.Test.YtggoejghnlgigaaTsd
import Derived.StillTailTactics
namespace Go.Proofs.Ytggoejghnlgigaa
open Go.ChangeShapes Go.WideShapes Go.ChangeAt Go.RowKit Go.Maps
namespace Tx
set_option linter.unusedVariables false
set_option linter.unusedSimpArgs false
theorem KidsIn.shape {B : Nat → Prop} {w : World} {v : Value} {ks : Fo} (h : KidsIn B w v ks) : ∃ ao c, v = .slice ao ks.len c := by
  rcases h with ⟨h, rfl⟩ | ⟨b, o, cap, e, _⟩
  · exact h
  · exact ⟨_, _, e⟩
theorem KidsIn.le {B : Nat → Prop} {w : World} {v : Value} {ks : Fo} (h : KidsIn B w v ks) : ks.len ≤ maxLen := by
  rcases h with ⟨h, rfl⟩ | ⟨b, o, cap, e, h1, h2, _⟩
  · exact Nat.zero_le _
  · omega
theorem KidsIn.one {B : Nat → Prop} {w : World} {ao : Option Addr} {n c : Nat} {ks : Fo} (h : KidsIn B w (.slice ao n c) ks) {i : Nat} (hi : i < ks.len) :
    ∃ b o d k nv kv, ao = some ⟨b, o, none⟩ ∧ ks.get i = some (d, k) ∧ ExAt B w b (o + i * 8) d k nv kv := by
  rcases h with ⟨_, rfl⟩ | ⟨b, o, cap, e, h1, h2, h3⟩
  · simp [Fo.len] at hi
  · injection e with e1 _ _
    obtain ⟨d, k, hg⟩ := ks.get_lt i hi
    obtain ⟨hb, nv, kv, hc, hn, hk⟩ := FoIn.at ks b o h3 i d k hg
    exact ⟨b, o, d, k, nv, kv, e1, hg, hb, hc, hn, hk⟩
def pc (p : Pr) : List Value := [p.va, p.vb]
theorem pc_len : ∀ st : List Pr, (st.flatMap pc).length = st.length * 2
  | [] => rfl
  | p :: st => by rw [List.flatMap_cons, List.length_append, pc_len st]; simp [pc]; omega
structure PrIn (B : Nat → Prop) (w : World) (p : Pr) : Prop where
  a : KidsIn B w p.va p.a
  b : KidsIn B w p.vb p.b
/-- What is left to compare. -/
structure SeAt (B : Nat → Prop) (W : World) (res : Bool) (k : Nat) (v : Value) (w : World) (st : List Pr) : Prop where
  own : w.ownsRow W.heap.size 97 2 v st.length (st.reverse.flatMap pc)
  each : ∀ p ∈ st, PrIn B w p
  fin : allSame st = res
  lf : Tx.left st ≤ k
  bd : Tx.left st ≤ 1000001
  below : Below W.heap.size W w
/-- In the middle of two lists. -/
structure SeIn (B : Nat → Prop) (W : World) (res : Bool) (k pb : Nat) (p : Pr) (i : Nat) (v : Value) (w : World) (st : List Pr) : Prop where
  own : w.ownsRow W.heap.size 97 2 v st.length (st.reverse.flatMap pc)
  each : ∀ q ∈ st, PrIn B w q
  blk : w.heap[pb]? = some (.cells #[p.va, p.vb] 97 (0, 0))
  far : v.ownBlock ≠ some pb
  hpb : W.heap.size ≤ pb
  pr : PrIn B w p
  len : p.a.len = p.b.len
  fin : (sameF (p.a.drop i) (p.b.drop i) && allSame st) = res
  lf : Tx.left st + (p.a.drop i).size ≤ k
  bd : Tx.left st + (p.a.drop i).size ≤ 1000000
  below : Below W.heap.size W w
theorem PrIn.keep {B : Nat → Prop} {w w' : World} (hb : ∀ b o v, B b → w.cell? ⟨b, o, none⟩ = some v → w'.cell? ⟨b, o, none⟩ = some v) {p : Pr} (h : PrIn B w p) : PrIn B w' p := ⟨h.a.keep hb, h.b.keep hb⟩
theorem own_keep {base : Nat} {e : TypeId} {w w' : World} {v : Value} {n : Nat} {xs : List Value} (h : w.ownsRow base e 2 v n xs) (hb : ∀ g, v.ownBlock = some g → w'.heap[g]? = w.heap[g]?) : w'.ownsRow base e 2 v n xs := by
  refine ⟨h.1, ?_⟩
  rcases h.2 with h | ⟨g, cap, cur, hv, h1, h2, h3⟩
  · exact .inl h
  · exact .inr ⟨g, cap, cur, hv, h1, (hb g (by rw [hv]; rfl)).trans h2, h3⟩
theorem own_form {base : Nat} {e : TypeId} {w : World} {v : Value} {n : Nat} {xs : List Value} (h : w.ownsRow base e 2 v n xs) : ∃ ao c, v = .slice ao n c := by
  rcases h.2 with ⟨hv, rfl⟩ | ⟨g, cap, cur, hv, _⟩
  · exact ⟨_, _, hv⟩
  · exact ⟨_, _, hv⟩
theorem SeIn.drew {B : Nat → Prop} {W : World} {res : Bool} {k pb : Nat} {p : Pr} {i : Nat} {v : Value} {w : World} {st : List Pr} (h : SeIn B W res k pb p i v w st) (n : Nat) : SeIn B W res k pb p i v (w.drewN n) st :=
  have k1 : Keeps (fun _ => False) w (w.drewN n) := (Keeps.refl _ w).drewN n
  have kp : ∀ b o u, B b → w.cell? ⟨b, o, none⟩ = some u → (w.drewN n).cell? ⟨b, o, none⟩ = some u := fun _ _ _ _ hc => k1.cell hc id
  ⟨own_keep h.own (fun g hg => k1.block g (h.own.lt g hg).2 id), fun q hq => (h.each q hq).keep kp, (k1.block pb (Array.getElem?_eq_some_iff.1 h.blk).1 id).trans h.blk, h.far, h.hpb, h.pr.keep kp, h.len, h.fin, h.lf, h.bd, h.below.trans ⟨rfl, rfl, rfl, Nat.le_refl _, fun _ _ => rfl⟩⟩
/-- At first. -/
theorem SeAt.start {B : Nat → Prop} {W : World} (hB : ∀ k, B k → k < W.heap.size) {va vb : Value} {a b : Fo} (ha : KidsIn B W va a) (hb : KidsIn B W vb b) (hsz : a.size ≤ 1000000) :
    SeAt B W (sameF a b) (a.size + 1) (.slice (some ⟨W.heap.size, 0, none⟩) 1 1) (W.alloc (.cells #[va, vb] 97)) [⟨va, vb, a, b⟩] := by
  have hb0 : Below W.heap.size W (W.alloc (.cells #[va, vb] 97)) := (Below.refl _ _).alloc (Nat.le_refl _) _
  have kp : ∀ b o v, B b → W.cell? ⟨b, o, none⟩ = some v → (W.alloc (.cells #[va, vb] 97)).cell? ⟨b, o, none⟩ = some v := fun b o v h hc => (hb0.cell (p := ⟨b, o, none⟩) (hB b h)).trans hc
  refine ⟨⟨rfl, .inr ⟨W.heap.size, 1, #[va, vb], rfl, Nat.le_refl _, ?_, Nat.le_refl _, by decide, rfl, rfl⟩⟩, ?_, by simp [allSame], by simp [Tx.left], by simp [Tx.left]; omega, hb0⟩
  · have key : ∀ (a : Array Obj) (o : Obj), (a.push o)[a.size]? = some o := by intro a o; simp
    exact key _ _
  · intro p hp
    simp only [List.mem_singleton] at hp
    subst hp
    exact ⟨ha.keep kp, hb.keep kp⟩
/-- The top of the row. -/
theorem SeAt.top {B : Nat → Prop} {W : World} {res : Bool} {k : Nat} {v : Value} {w : World} {p : Pr} {st : List Pr} (h : SeAt B W res k v w (p :: st)) :
    ∃ g cap, v = .slice (some ⟨g, 0, none⟩) (st.length + 1) cap ∧ st.length + 1 ≤ cap ∧ cap ≤ maxLen ∧ W.heap.size ≤ g ∧ g < w.heap.size ∧
      w.cell? ⟨g, st.length * 2, none⟩ = some p.va ∧ w.cell? ⟨g, st.length * 2 + 1, none⟩ = some p.vb := by
  have hlt := h.own.lt
  rcases h.own.2 with ⟨_, h0⟩ | ⟨g, cap, cur, hv, hbase, hg, hcap, hmax, hsz, htake⟩
  · simp at h0
  · have hc := h.own.cells (g := g) (by rw [hv]; rfl)
    have hl := pc_len st.reverse
    rw [List.length_reverse] at hl
    have e : (p :: st).reverse.flatMap pc = st.reverse.flatMap pc ++ [p.va, p.vb] := by simp [pc]
    have hadd : ∀ j, (⟨g, 0, none⟩ : Addr).add j = ⟨g, j, none⟩ := fun j => by unfold Addr.add; split <;> simp_all
    refine ⟨g, cap, hv, hcap, hmax, hbase, (hlt g (by rw [hv]; rfl)).2, ?_, ?_⟩
    · have := hc (st.length * 2) p.va (by rw [e, List.getElem?_append_right (by omega), hl]; simp)
      rwa [hadd] at this
    · have := hc (st.length * 2 + 1) p.vb (by rw [e, List.getElem?_append_right (by omega), hl]; simp)
      rwa [hadd] at this
/-- The top is taken. -/
theorem SeAt.pop {B : Nat → Prop} {W : World} {res : Bool} {k g cap : Nat} {w : World} {p : Pr} {st : List Pr} (hB : ∀ k, B k → k < W.heap.size) (h : SeAt B W res k (.slice (some ⟨g, 0, none⟩) (st.length + 1) cap) w (p :: st)) (hl : p.a.len = p.b.len) (w1 : World) (hw1 : w.alloc (.cells #[p.va, p.vb] 97) = w1) :
    SeIn B W res (Tx.left (p :: st) - 1) w.heap.size p 0 (.slice (some ⟨g, 0, none⟩) st.length cap) w1 st := by
  subst hw1
  have hb0 : Below w.heap.size w (w.alloc (.cells #[p.va, p.vb] 97)) := (Below.refl _ _).alloc (Nat.le_refl _) _
  have hz := h.below.size
  have glt : g < w.heap.size := (h.own.lt g rfl).2
  have kp : ∀ b o v, B b → w.cell? ⟨b, o, none⟩ = some v → (w.alloc (.cells #[p.va, p.vb] 97)).cell? ⟨b, o, none⟩ = some v := fun b o v h' hc => (hb0.cell (p := ⟨b, o, none⟩) (by have := hB b h'; show b < w.heap.size; omega)).trans hc
  refine ⟨?_, fun q hq => (h.each q (by simp [hq])).keep kp, ?_, ?_, hz, (h.each p (by simp)).keep kp, hl, ?_, ?_, ?_, h.below.trans (hb0.mono hz)⟩
  · have e0 := own_keep (w' := w.alloc (.cells #[p.va, p.vb] 97)) h.own (fun g' e => by cases e; exact hb0.block _ glt)
    have hl2 := pc_len st.reverse
    rw [List.length_reverse] at hl2
    refine ⟨hl2, .inr ?_⟩
    rcases e0.2 with ⟨hv, _⟩ | ⟨g', cap', cur, hv, h1, h2, h3, h4, h5, h6⟩
    · cases hv
    · cases hv
      refine ⟨g, cap, cur, rfl, h1, h2, by simp at h3; omega, h4, h5, ?_⟩
      have e : (p :: st).reverse.flatMap pc = st.reverse.flatMap pc ++ pc p := by simp
      rw [e] at h6
      have := congrArg (List.take (st.length * 2)) h6
      rw [List.take_take, List.take_append_of_le_length (by omega), List.take_of_length_le (by omega : (st.reverse.flatMap pc).length ≤ st.length * 2)] at this
      rw [← this]
      congr 1
      simp only [List.length_cons]
      omega
  · have key : ∀ (a : Array Obj) (o : Obj), (a.push o)[a.size]? = some o := by intro a o; simp
    exact key _ _
  · intro e
    simp only [Value.ownBlock, Option.some.injEq] at e
    omega
  · have := h.fin
    simp only [allSame] at this
    rw [drop_zero, drop_zero]
    exact this
  · have := h.lf
    simp only [Tx.left] at this ⊢
    rw [drop_zero]
    omega
  · have := h.bd
    simp only [Tx.left] at this
    rw [drop_zero]
    omega
/-- Two expressions that are one, and nothing is left of them. -/
theorem SeIn.next {B : Nat → Prop} {W : World} {res : Bool} {k pb : Nat} {p : Pr} {i : Nat} {v : Value} {w : World} {st : List Pr} (h : SeIn B W res k pb p i v w st) {d1 d2 : Dt} {k1 k2 : Fo} (g1 : p.a.get i = some (d1, k1)) (g2 : p.b.get i = some (d2, k2)) (hs : sameD d1 d2 = true) (l1 : k1.len = 0) (l2 : k2.len = 0) : SeIn B W res k pb p (i + 1) v w st := by
  have e1 := drop_size g1
  have e2 := sameF_drop g1 g2
  have hf := h.fin
  rw [len_nil l1, len_nil l2, hs] at e2
  rw [e2] at hf
  exact ⟨h.own, h.each, h.blk, h.far, h.hpb, h.pr, h.len, by simpa [sameF] using hf, by have := h.lf; omega, by have := h.bd; omega, h.below⟩
theorem SeIn.differ {B : Nat → Prop} {W : World} {res : Bool} {k pb : Nat} {p : Pr} {i : Nat} {v : Value} {w : World} {st : List Pr} (h : SeIn B W res k pb p i v w st) {d1 d2 : Dt} {k1 k2 : Fo} (g1 : p.a.get i = some (d1, k1)) (g2 : p.b.get i = some (d2, k2)) (hs : sameD d1 d2 = false) : res = false := by
  have e2 := sameF_drop g1 g2
  have hf := h.fin
  rw [e2, hs] at hf
  simpa using hf.symm
/-- Their kids are left to compare. -/
theorem SeIn.push {B : Nat → Prop} {W : World} {res : Bool} {k pb : Nat} {p : Pr} {i : Nat} {v : Value} {w w5 : World} {st : List Pr} (hB : ∀ k, B k → k < W.heap.size) (h : SeIn B W res k pb p i v w st) {d1 d2 : Dt} {k1 k2 : Fo} {kv1 kv2 : Value} (g1 : p.a.get i = some (d1, k1)) (g2 : p.b.get i = some (d2, k2)) (hs : sameD d1 d2 = true)
    (n1 : KidsIn B w kv1 k1) (n2 : KidsIn B w kv2 k2) {g cap : Nat} {o : Obj} (hown : w5.ownsRow W.heap.size 97 2 (.slice (some ⟨g, 0, none⟩) (st.length + 1) cap) (st.length + 1) (st.reverse.flatMap pc ++ [kv1, kv2]))
    (hgrow : (w.alloc o).grownBy w5 v.ownBlock) (hat : v.ownBlock = some g ∨ g = w.heap.size + 1) : SeIn B W res k pb p (i + 1) (.slice (some ⟨g, 0, none⟩) (st.length + 1) cap) w5 (⟨kv1, kv2, k1, k2⟩ :: st) := by
  have e1 := drop_size g1
  have e2 := sameF_drop g1 g2
  have hf := h.fin
  rw [hs, Bool.true_and] at e2
  rw [e2] at hf
  have hlt := (Array.getElem?_eq_some_iff.1 h.blk).1
  have hz := h.below.size
  have k5 : Keeps (fun k => v.ownBlock = some k) w w5 := ((Keeps.refl _ w).alloc o).trans (Keeps.grown hgrow)
  have hBv : ∀ b, B b → ¬ v.ownBlock = some b := fun b hb e => by
    have := (h.own.lt b e).1
    have := hB b hb
    omega
  have kp : ∀ b o v', B b → w.cell? ⟨b, o, none⟩ = some v' → w5.cell? ⟨b, o, none⟩ = some v' := fun b o v' hb hc => k5.cell hc (hBv b hb)
  refine ⟨by simpa [pc] using hown, ?_, (k5.block pb hlt h.far).trans h.blk, ?_, h.hpb, h.pr.keep kp, h.len, ?_, ?_, ?_, ?_⟩
  · intro q hq
    simp only [List.mem_cons] at hq
    rcases hq with rfl | hq
    · exact ⟨n1.keep kp, n2.keep kp⟩
    · exact (h.each q hq).keep kp
  · intro e
    simp only [Value.ownBlock, Option.some.injEq] at e
    subst e
    rcases hat with h1 | h1
    · exact h.far h1
    · omega
  · simp only [allSame]
    rw [← hf]
    cases sameF k1 k2 <;> simp
  · have := h.lf
    simp only [Tx.left]
    omega
  · have := h.bd
    simp only [Tx.left]
    omega
  · refine ⟨k5.os.trans h.below.os, k5.tape.trans h.below.tape, k5.output.trans h.below.output, Nat.le_trans h.below.size k5.size, fun j hj => ?_⟩
    rw [k5.block j (by omega) (fun e => by have := (h.own.lt j e).1; omega), h.below.block j hj]
theorem SeIn.done {B : Nat → Prop} {W : World} {res : Bool} {k pb : Nat} {p : Pr} {i : Nat} {v : Value} {w : World} {st : List Pr} (h : SeIn B W res k pb p i v w st) (hi : p.a.len = i) : SeAt B W res (Tx.left st) v w st := by
  have hf := h.fin
  rw [sameF_done i hi (by rw [← h.len]; exact hi), Bool.true_and] at hf
  exact ⟨h.own, h.each, hf, Nat.le_refl _, by have := h.bd; omega, h.below⟩
end Tx
end Go.Proofs.Ytggoejghnlgigaa
