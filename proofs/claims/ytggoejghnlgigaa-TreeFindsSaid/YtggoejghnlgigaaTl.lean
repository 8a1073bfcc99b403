/- The law's lists: what its loops build. -/
import Derived.Test.YtggoejghnlgigaaTi
import Derived.Test.YtggoejghnlgigaaTj
import Derived.Deep.AppendLies
import Derived.Deep.RegionLaw
import Derived.Deep.RegionLawGrows
import Derived.Deep.RegionHeld3
namespace Go.Proofs.Ytggoejghnlgigaa
open Go.ChangeShapes Go.WideShapes Go.ChangeAt Go.RowKit Go.Maps
namespace Tx
set_option linter.unusedVariables false
set_option linter.unusedSimpArgs false
theorem infoVar : (Try.prog.info? 32).map (fun i => (i.zero, i.size, i.bytes)) = some (some (Value.agg #[.string ⟨#[]⟩, .int .u8 0, .string ⟨#[]⟩, .slice none 0 0, .bool false, .int .u8 0, .int .u8 0, .int .i32 0, .string ⟨#[]⟩, .slice none 0 0, .slice none 0 0, .int .i64 0, .int .i64 0, .int .i64 0, .int .i64 0]), 15, 176) := by kernel_rfl
theorem infoNode : (Try.prog.info? 47).map (fun i => (i.zero, i.size, i.bytes)) = some (some (Value.agg #[.string ⟨#[]⟩, .slice none 0 0, .slice none 0 0, .slice none 0 0, .slice none 0 0, .int .i64 0, .int .i64 0]), 7, 128) := by kernel_rfl
theorem infoEnum : (Try.prog.info? 49).map (fun i => (i.zero, i.size, i.bytes)) = some (some (Value.agg #[.string ⟨#[]⟩, .slice none 0 0, .int .i64 0, .int .i64 0]), 4, 56) := by kernel_rfl
theorem own_keep {S : Nat → Prop} {w w' : World} {base : Nat} {t : TypeId} {sz n : Nat} {v : Value} {xs : List Value} (h : w.ownsRow base t sz v n xs) (hk : Keeps S w w') (hS : ∀ g, v.ownBlock = some g → ¬ S g) : w'.ownsRow base t sz v n xs := by
  refine ⟨h.1, ?_⟩
  rcases h.2 with hv | ⟨g, cap, cur, hv, h1, h2, h3⟩
  · exact .inl hv
  · exact .inr ⟨g, cap, cur, hv, h1, (hk.block g (Array.getElem?_eq_some_iff.1 h2).1 (hS g (by rw [hv]; rfl))).trans h2, h3⟩
theorem own_shape {w : World} {base : Nat} {t : TypeId} {sz n : Nat} {v : Value} {xs : List Value} (h : w.ownsRow base t sz v n xs) : ∃ ao c, v = .slice ao n c := by
  rcases h.2 with ⟨hv, h0⟩ | ⟨g, cap, cur, hv, _⟩
  · exact ⟨none, 0, by rw [hv, h0]⟩
  · exact ⟨_, _, hv⟩
/-- How far the number of the first that is sought is known. -/
def Want (s : ByteArray) (ns : List ByteArray) (i : Nat) (z : Int) : Prop := (z = -1 ∧ ixOf (isS s) (ns.drop i) i = ixOf (isS s) ns 0) ∨ (0 ≤ z ∧ z = ixOf (isS s) ns 0)
theorem Want.next {s : ByteArray} {ns : List ByteArray} {i : Nat} {z : Int} {x : ByteArray} (h : Want s ns i z) (hx : ns[i]? = some x) : Want s ns (i + 1) (if isS s x = true ∧ z < 0 then (i : Int) else z) := by
  rcases h with ⟨rfl, h⟩ | ⟨h0, h⟩
  · rw [ixOf_drop hx] at h
    by_cases hp : isS s x = true
    · rw [if_pos hp] at h
      rw [if_pos ⟨hp, by decide⟩]
      exact .inr ⟨by omega, h⟩
    · rw [if_neg hp] at h
      rw [if_neg (fun e => hp e.1)]
      exact .inl ⟨rfl, h⟩
  · rw [if_neg (fun e => by omega)]
    exact .inr ⟨h0, h⟩
theorem Want.done {s : ByteArray} {ns : List ByteArray} {i : Nat} {z : Int} (h : Want s ns i z) (hi : ns.length ≤ i) : z = ixOf (isS s) ns 0 := by
  rcases h with ⟨rfl, h⟩ | ⟨h0, h⟩
  · rw [ixOf_end hi] at h; exact h
  · exact h
/-- The first loop's lists: so many variables, so many nodes. -/
structure L1 (W : World) (ns : List ByteArray) (i j : Nat) (v9 nv : Value) (wr : World) : Prop where
  below : Below W.heap.size W wr
  z : W.heap.size < wr.heap.size
  c0 : wr.cell? ⟨W.heap.size, 0, none⟩ = some (.slice none 0 0)
  c1 : wr.cell? ⟨W.heap.size, 1, none⟩ = some nv
  f0 : wr.frozen? ⟨W.heap.size, 0, none⟩ = false
  f1 : wr.frozen? ⟨W.heap.size, 1, none⟩ = false
  vars : wr.ownsRow (W.heap.size + 1) 32 15 v9 i ((ns.take i).flatMap varV)
  nodes : wr.ownsRow (W.heap.size + 1) 47 7 nv j ((ns.take j).flatMap nodeV)
  ne : ∀ g, v9.ownBlock = some g → nv.ownBlock ≠ some g
theorem take_flat {α : Type} {f : α → List Value} {ns : List α} {i : Nat} {x : α} (h : ns[i]? = some x) : (ns.take (i + 1)).flatMap f = (ns.take i).flatMap f ++ f x := by
  obtain ⟨hi, rfl⟩ := List.getElem?_eq_some_iff.1 h
  rw [List.take_succ_eq_append_getElem hi, List.flatMap_append]
  simp
theorem L1.pushVar {W : World} {ns : List ByteArray} {i j : Nat} {v9 nv : Value} {wr w2 : World} {x : ByteArray} {g cap : Nat} {ob : Obj} (h : L1 W ns i j v9 nv wr) (hx : ns[i]? = some x)
    (hown : w2.ownsRow (W.heap.size + 1) 32 15 (.slice (some ⟨g, 0, none⟩) (i + 1) cap) (i + 1) ((ns.take i).flatMap varV ++ varV x)) (hgrow : (wr.alloc ob).grownBy w2 v9.ownBlock) (hat : v9.ownBlock = some g ∨ g = wr.heap.size + 1) :
    L1 W ns (i + 1) j (.slice (some ⟨g, 0, none⟩) (i + 1) cap) nv w2 := by
  have k2 : Keeps (fun k => v9.ownBlock = some k) wr w2 := ((Keeps.refl _ wr).alloc ob).trans (Keeps.grown hgrow)
  have hp : ¬ v9.ownBlock = some W.heap.size := fun e => by have := (h.vars.lt _ e).1; omega
  have hlt : W.heap.size < wr.heap.size := h.z
  refine ⟨?_, Nat.lt_of_lt_of_le h.z k2.size, k2.cell h.c0 hp, k2.cell h.c1 hp, (World.frozen?_of_block (k2.block _ hlt hp)).trans h.f0, (World.frozen?_of_block (k2.block _ hlt hp)).trans h.f1, by rw [take_flat hx]; exact hown, own_keep h.nodes k2 (fun g hg e => h.ne g e hg), ?_⟩
  · refine ⟨k2.os.trans h.below.os, k2.tape.trans h.below.tape, k2.output.trans h.below.output, Nat.le_trans h.below.size k2.size, fun k hk => ?_⟩
    rw [k2.block k (by have := h.z; omega) (fun e => by have := (h.vars.lt _ e).1; omega), h.below.block k hk]
  · intro g' hg'
    simp only [Value.ownBlock, Option.some.injEq] at hg'
    subst hg'
    rcases hat with e | e
    · exact h.ne _ e
    · intro e2
      have := (h.nodes.lt _ e2).2
      omega
theorem L1.pushNode {W : World} {ns : List ByteArray} {i j : Nat} {v9 nv : Value} {wr w2 : World} {x : ByteArray} {g cap : Nat} {ob : Obj} (h : L1 W ns i j v9 nv wr) (hx : ns[j]? = some x)
    (hown : w2.ownsRow (W.heap.size + 1) 47 7 (.slice (some ⟨g, 0, none⟩) (j + 1) cap) (j + 1) ((ns.take j).flatMap nodeV ++ nodeV x)) (hgrow : (wr.alloc ob).grownBy w2 nv.ownBlock) (hat : nv.ownBlock = some g ∨ g = wr.heap.size + 1) (q : Nat) :
    L1 W ns i (j + 1) v9 (.slice (some ⟨g, 0, none⟩) (j + 1) cap) ((w2.setCell ⟨W.heap.size, 1, none⟩ (.slice (some ⟨g, 0, none⟩) (j + 1) cap)).drewN q) := by
  have k2 : Keeps (fun k => nv.ownBlock = some k) wr w2 := ((Keeps.refl _ wr).alloc ob).trans (Keeps.grown hgrow)
  have hp : ¬ nv.ownBlock = some W.heap.size := fun e => by have := (h.nodes.lt _ e).1; omega
  have hlt : W.heap.size < wr.heap.size := h.z
  have hlt2 : W.heap.size < w2.heap.size := Nat.lt_of_lt_of_le h.z k2.size
  have k3 : Keeps (fun k => k = W.heap.size) w2 ((w2.setCell ⟨W.heap.size, 1, none⟩ (.slice (some ⟨g, 0, none⟩) (j + 1) cap)).drewN q) := ((Keeps.refl (fun k => k = W.heap.size) w2).setCell (p := ⟨W.heap.size, 1, none⟩) rfl _).drewN q
  have d0 := k2.cell h.c0 hp
  have d1 := k2.cell h.c1 hp
  have e0 := (World.frozen?_of_block (k2.block _ hlt hp) : w2.frozen? ⟨W.heap.size, 0, none⟩ = _).trans h.f0
  have e1 := (World.frozen?_of_block (k2.block _ hlt hp) : w2.frozen? ⟨W.heap.size, 1, none⟩ = _).trans h.f1
  have hvk : w2.ownsRow (W.heap.size + 1) 32 15 v9 i ((ns.take i).flatMap varV) := own_keep h.vars k2 (fun g hg e => h.ne g hg e)
  refine ⟨?_, Nat.lt_of_lt_of_le hlt2 k3.size, ?_, ?_, ?_, ?_, own_keep hvk k3 (fun g hg e => by have := (hvk.lt _ hg).1; omega), ?_, ?_⟩
  · refine ⟨k3.os.trans (k2.os.trans h.below.os), k3.tape.trans (k2.tape.trans h.below.tape), k3.output.trans (k2.output.trans h.below.output), Nat.le_trans h.below.size (Nat.le_trans k2.size k3.size), fun k hk => ?_⟩
    rw [k3.block k (by omega) (by omega), k2.block k (by omega) (fun e => by have := (h.nodes.lt _ e).1; omega), h.below.block k hk]
  · show (w2.setCell ⟨W.heap.size, 1, none⟩ _).cell? _ = _
    simp [go_sem, d0]
  · show (w2.setCell ⟨W.heap.size, 1, none⟩ _).cell? _ = _
    simp [go_sem, d1]
  · show (w2.setCell ⟨W.heap.size, 1, none⟩ _).frozen? _ = _
    simp [go_sem, e0]
  · show (w2.setCell ⟨W.heap.size, 1, none⟩ _).frozen? _ = _
    simp [go_sem, e1]
  · rw [take_flat hx]
    exact own_keep hown k3 (fun g' hg e => by have := (hown.lt _ hg).1; omega)
  · intro g' hg' e2
    simp only [Value.ownBlock, Option.some.injEq] at e2
    subst e2
    rcases hat with e | e
    · exact h.ne _ hg' e
    · have := (h.vars.lt _ hg').2
      omega
theorem grow_drew {w w' : World} {o : Obj} {r : Option Nat} (h : (w.alloc o).drew.grownBy w' r) : (w.alloc o).grownBy w' r := ⟨h.os, h.tape, h.output, h.size, h.block⟩
theorem L1.grown {W : World} {ns : List ByteArray} {i j : Nat} {v9 nv : Value} {wr w2 : World} {ob : Obj} (h : L1 W ns i j v9 nv wr) (hgrow : (wr.alloc ob).grownBy w2 nv.ownBlock) : w2.cell? ⟨W.heap.size, 1, none⟩ = some nv ∧ w2.frozen? ⟨W.heap.size, 1, none⟩ = false := by
  have k2 : Keeps (fun k => nv.ownBlock = some k) wr w2 := ((Keeps.refl _ wr).alloc ob).trans (Keeps.grown hgrow)
  have hp : ¬ nv.ownBlock = some W.heap.size := fun e => by have := (h.nodes.lt _ e).1; omega
  exact ⟨k2.cell h.c1 hp, (World.frozen?_of_block (k2.block _ h.z hp)).trans h.f1⟩
/-- The second loop's list: so many types. -/
structure L2 (W Wl : World) (nv : Value) (ts : List En) (i : Nat) (ev : Value) (wr : World) : Prop where
  keeps : Keeps (fun k => k = W.heap.size) Wl wr
  z : W.heap.size < Wl.heap.size
  c0 : wr.cell? ⟨W.heap.size, 0, none⟩ = some ev
  c1 : wr.cell? ⟨W.heap.size, 1, none⟩ = some nv
  f0 : wr.frozen? ⟨W.heap.size, 0, none⟩ = false
  own : wr.ownsRow Wl.heap.size 49 4 ev i ((ts.take i).flatMap enumV)
theorem L1.start {W Wl : World} {ns : List ByteArray} {i j : Nat} {v9 nv : Value} (h : L1 W ns i j v9 nv Wl) (ts : List En) : L2 W Wl nv ts 0 (.slice none 0 0) Wl :=
  ⟨Keeps.refl _ _, h.z, h.c0, h.c1, h.f0, ⟨rfl, .inl ⟨rfl, rfl⟩⟩⟩
theorem L2.grown {W Wl : World} {nv ev : Value} {ts : List En} {i : Nat} {wr w2 : World} {ob : Obj} (h : L2 W Wl nv ts i ev wr) (hgrow : (wr.alloc ob).grownBy w2 ev.ownBlock) : w2.cell? ⟨W.heap.size, 0, none⟩ = some ev ∧ w2.frozen? ⟨W.heap.size, 0, none⟩ = false := by
  have k2 : Keeps (fun k => ev.ownBlock = some k) wr w2 := ((Keeps.refl _ wr).alloc ob).trans (Keeps.grown hgrow)
  have hp : ¬ ev.ownBlock = some W.heap.size := fun e => by have := (h.own.lt _ e).1; have := h.z; omega
  exact ⟨k2.cell h.c0 hp, (World.frozen?_of_block (k2.block _ (Nat.lt_of_lt_of_le h.z h.keeps.size) hp)).trans h.f0⟩
theorem L2.push {W Wl : World} {nv ev : Value} {ts : List En} {i : Nat} {wr w2 : World} {x : En} {g cap : Nat} {ob : Obj} (h : L2 W Wl nv ts i ev wr) (hx : ts[i]? = some x)
    (hown : w2.ownsRow Wl.heap.size 49 4 (.slice (some ⟨g, 0, none⟩) (i + 1) cap) (i + 1) ((ts.take i).flatMap enumV ++ enumV x)) (hgrow : (wr.alloc ob).grownBy w2 ev.ownBlock) :
    L2 W Wl nv ts (i + 1) (.slice (some ⟨g, 0, none⟩) (i + 1) cap) (w2.setCell ⟨W.heap.size, 0, none⟩ (.slice (some ⟨g, 0, none⟩) (i + 1) cap)) := by
  have k2 : Keeps (fun k => ev.ownBlock = some k) wr w2 := ((Keeps.refl _ wr).alloc ob).trans (Keeps.grown hgrow)
  have hz := h.z
  have hp : ¬ ev.ownBlock = some W.heap.size := fun e => by have := (h.own.lt _ e).1; omega
  have k3 : Keeps (fun k => k = W.heap.size) w2 (w2.setCell ⟨W.heap.size, 0, none⟩ (.slice (some ⟨g, 0, none⟩) (i + 1) cap)) := (Keeps.refl (fun k => k = W.heap.size) w2).setCell (p := ⟨W.heap.size, 0, none⟩) rfl _
  have d0 := (h.grown hgrow).1
  have e0 := (h.grown hgrow).2
  have d1 := k2.cell h.c1 hp
  refine ⟨?_, hz, ?_, ?_, ?_, ?_⟩
  · refine ⟨k3.os.trans (k2.os.trans h.keeps.os), k3.tape.trans (k2.tape.trans h.keeps.tape), k3.output.trans (k2.output.trans h.keeps.output), Nat.le_trans h.keeps.size (Nat.le_trans k2.size k3.size), fun k hk hn => ?_⟩
    have := h.keeps.size
    have := k2.size
    rw [k3.block k (by omega) hn, k2.block k (by omega) (fun e => by have := (h.own.lt _ e).1; omega), h.keeps.block k hk hn]
  · simp [go_sem, d0]
  · simp [go_sem, d1]
  · simp [go_sem, e0]
  · rw [take_flat hx]
    exact own_keep hown k3 (fun g' hg e => by have := (hown.lt _ hg).1; omega)
theorem flat_at {α : Type} {K : Nat} {val : α → List Value} (hK : ∀ x, (val x).length = K) : ∀ (ns : List α) (i j : Nat) (x : α) (u : Value), ns[i]? = some x → (val x)[j]? = some u → (ns.flatMap val)[i * K + j]? = some u
  | [], i, j, x, u, h, _ => by simp at h
  | y :: r, 0, j, x, u, h, hu => by
    obtain rfl : y = x := by simpa using h
    rw [List.flatMap_cons, Nat.zero_mul, Nat.zero_add, List.getElem?_append_left (List.getElem?_eq_some_iff.1 hu).1]
    exact hu
  | y :: r, i + 1, j, x, u, h, hu => by
    rw [List.flatMap_cons, List.getElem?_append_right (by rw [hK, Nat.succ_mul]; omega), hK, show (i + 1) * K + j - K = i * K + j by rw [Nat.succ_mul]; omega]
    exact flat_at hK r i j x u (by simpa using h) hu
theorem row_of_own {α : Type} {K : Nat} {val : α → List Value} (hK : ∀ x, (val x).length = K) {w : World} {base : Nat} {t : TypeId} {v : Value} {ns : List α} (h : w.ownsRow base t K v ns.length (ns.flatMap val)) : RowIn K val w v ns := by
  rcases h.2 with ⟨hv, h0⟩ | ⟨g, cap, cur, hv, h1, h2, h3, h4, h5, h6⟩
  · exact .inl ⟨⟨none, 0, hv⟩, List.length_eq_zero_iff.1 h0⟩
  · refine .inr ⟨g, cap, hv, h3, h4, (Array.getElem?_eq_some_iff.1 h2).1, fun i x hi j u hj => ?_⟩
    have hc := h.cells (g := g) (by rw [hv]; rfl) (i * K + j) u (flat_at hK ns i j x u hi hj)
    have hadd : (⟨g, 0, none⟩ : Addr).add (i * K + j) = ⟨g, i * K + j, none⟩ := by unfold Addr.add; split <;> simp_all
    rw [hadd] at hc
    exact hc
def toEn (s : ByteArray) (p : Value × List ByteArray) : En := ⟨s, p.1, p.2⟩
theorem L2.ens {B : Nat → Prop} {W Wl : World} {nv ev : Value} {s : ByteArray} {ls : List (Value × List ByteArray)} {wr : World} (h : L2 W Wl nv (ls.map (toEn s)) ls.length ev wr) (hB : ∀ k, B k → k < wr.heap.size) (hl : ∀ p ∈ ls, NamesIn B wr p.1 p.2) : EnsIn B wr ev (ls.map (toEn s)) := by
  refine ⟨row_of_own (val := enumV) (fun (_ : En) => rfl) (t := 49) (base := Wl.heap.size) ?_, fun t ht => ?_, hB⟩
  · have := h.own
    rw [List.take_of_length_le (by simp)] at this
    rw [List.length_map]
    exact this
  · obtain ⟨p, hp, rfl⟩ := List.mem_map.1 ht
    exact hl p hp
theorem ListsIn.all {B : Nat → Prop} {w : World} {v : Value} {ls : List (Value × List ByteArray)} (h : ListsIn B w v ls) : ∀ p ∈ ls, NamesIn B w p.1 p.2 := by
  intro p hp
  rcases h with ⟨_, rfl⟩ | ⟨b, o, cap, h1, h2, h3, h4, h5⟩
  · cases hp
  · obtain ⟨i, hi, rfl⟩ := List.mem_iff_getElem.1 hp
    exact (h5 i _ (List.getElem?_eq_getElem hi)).2
theorem ListsIn.at {B : Nat → Prop} {w : World} {ao : Option Addr} {n c : Nat} {ls : List (Value × List ByteArray)} (h : ListsIn B w (.slice ao n c) ls) {i : Nat} (hi : i < ls.length) :
    ∃ b o p a1 c1, ao = some ⟨b, o, none⟩ ∧ ls[i]? = some p ∧ B b ∧ p.1 = .slice a1 p.2.length c1 ∧ w.cell? ⟨b, o + i, none⟩ = some (.slice a1 p.2.length c1) ∧ p.2.length ≤ maxLen := by
  rcases h with ⟨_, rfl⟩ | ⟨b, o, cap, e, h1, h2, h3, h4⟩
  · simp at hi
  · injection e with e1 _ _
    obtain ⟨hc, hn⟩ := h4 i ls[i] (List.getElem?_eq_getElem hi)
    obtain ⟨a1, c1, hv⟩ := hn.form
    exact ⟨b, o, ls[i], a1, c1, e1, List.getElem?_eq_getElem hi, h3, hv, by rw [← hv]; exact hc, hn.le⟩
/-- What lies in memory behind both loops. -/
structure L3 (N pb : Nat) (w : World) (ns : List ByteArray) (ts : List En) (u9 nv ev : Value) (wt : World) : Prop where
  vars : RowIn 15 varV wt u9 ns
  nodes : RowIn 7 nodeV wt nv ns
  ens : EnsIn (fun k => k < N) wt ev ts
  c0 : wt.cell? ⟨pb, 0, none⟩ = some ev
  c1 : wt.cell? ⟨pb, 1, none⟩ = some nv
  below : Below N w wt
  n : N ≤ wt.heap.size
theorem L3.grow {N pb : Nat} {w wt w' : World} {ns : List ByteArray} {ts : List En} {u9 nv ev : Value} (h : L3 N pb w ns ts u9 nv ev wt) (hb : Below wt.heap.size wt w') : L3 N pb w ns ts u9 nv ev w' :=
  ⟨h.vars.below hb, h.nodes.below hb, h.ens.below hb, (hb.cell (p := ⟨pb, 0, none⟩) (World.block_lt_of_cell? wt _ h.c0)).trans h.c0, (hb.cell (p := ⟨pb, 1, none⟩) (World.block_lt_of_cell? wt _ h.c1)).trans h.c1, bel h.below h.n hb, Nat.le_trans h.n hb.size⟩
theorem L3.mk' {N : Nat} {w W Wl wr : World} {ns : List ByteArray} {s : ByteArray} {v : Value} {ls : List (Value × List ByteArray)} {i k : Nat} {u9 nv ev : Value} (h1 : L1 W ns i i u9 nv Wl) (h2 : L2 W Wl nv (ls.map (toEn s)) k ev wr) (hi : ns.length = i) (hk : ls.length = k)
    (hb : Below N w wr) (hN : N ≤ wr.heap.size) (hn : w.heap.size = N) (hl : ListsIn (fun k => k < N) w v ls) : L3 N W.heap.size w ns (ls.map (toEn s)) u9 nv ev wr := by
  subst hi hk
  refine ⟨row_of_own (val := varV) (fun _ => rfl) (t := 32) (base := W.heap.size + 1) ?_, row_of_own (val := nodeV) (fun _ => rfl) (t := 47) (base := W.heap.size + 1) ?_, h2.ens (fun k hk => Nat.lt_of_lt_of_le hk hN) ?_, h2.c0, h2.c1, hb, hN⟩
  · have := own_keep h1.vars h2.keeps (fun g hg e => by have := (h1.vars.lt _ hg).1; omega)
    rwa [List.take_length] at this
  · have := own_keep h1.nodes h2.keeps (fun g hg e => by have := (h1.nodes.lt _ hg).1; omega)
    rwa [List.take_length] at this
  · exact fun p hp => (hl.keep (w' := wr) (fun b o v hB hc => (hb.cell (p := ⟨b, o, none⟩) hB).trans hc)).all p hp
theorem ctorAt_range (s : ByteArray) (ts : List En) (h40 : ∀ t ∈ ts, t.cs.length ≤ 40) : -1 ≤ (ctorAt s ts 0).2 ∧ (ctorAt s ts 0).2 ≤ 40 := by
  rcases ctorAt_cases s ts 0 with h | ⟨i, t, hi, h, h0⟩
  · rw [h]; exact ⟨by decide, by decide⟩
  · rw [h]
    have h1 := h40 t (List.mem_of_getElem? hi)
    rcases ixOf_range (p := isS s) t.cs 0 with h2 | h2
    · exact ⟨by simp only; omega, by simp only; omega⟩
    · exact ⟨by simp only; omega, by simp only; omega⟩
theorem first_of (s : ByteArray) (ls : List (Value × List ByteArray)) : ixOf (fun t => isS s t.nm) (ls.map (toEn s)) 0 = if ls.length = 0 then -1 else 0 := by
  cases ls with
  | nil => rfl
  | cons p r =>
    rw [if_neg (by simp)]
    show (if isS s s = true then ((0 : Nat) : Int) else _) = 0
    rw [if_pos (by simp [isS])]
    rfl
end Tx
end Go.Proofs.Ytggoejghnlgigaa
