/- Arguments that are lists of names. -/
import Derived.Test.YtecfknbhnhcioaaGreatDoorCe
import Derived.Test.YtecfknbhnhcioaaGreatDoorNq
import Derived.SliceStrings
import Derived.Lib.SmallJoins
namespace Go.Proofs.YtecfknbhnhcioaaGreatDoor
open Go.ChangeShapes Go.WideShapes Go.ChangeAt Go.RowKit Go.Joins
namespace Tx
set_option linter.unusedVariables false
set_option linter.unusedSimpArgs false
section
variable {H : Type} {enc : TypeId × Value → H} {w : World} {held : Bool}
theorem plain_of {a : Addr} {v : Value} (h : w.cell? a = some v) : ∃ b o, a = ⟨b, o, none⟩ ∧ b < w.heap.size := by
  obtain ⟨b, o, sp⟩ := a
  obtain rfl : sp = none := World.cell?_spot h
  exact ⟨b, o, rfl, World.block_lt_of_cell? w _ h⟩
theorem names_of {fuel : Nat} {v : Value} {x : DataW H × List MemPlace} (h : DataW.trod enc Tryz.prog w 0 (fun _ => true) held fuel 22 [v] = some x) : ∃ ns, NamesIn (fun k => k < w.heap.size) w v ns := by
  rcases open_strings Tryz.underlying22 Tryz.underlying9 (by kernel_rfl) h with ⟨hc, _⟩ | ⟨a, len, cap, ss, hc, _, hl, hm, hz, _, hcell, hsz⟩
  · simp only [List.cons.injEq, and_true] at hc
    exact ⟨[], .inl ⟨⟨_, _, hc⟩, rfl⟩⟩
  · simp only [List.cons.injEq, and_true] at hc
    simp only [if_true] at hz
    cases len with
    | zero => exact ⟨[], .inl ⟨⟨_, _, hc⟩, rfl⟩⟩
    | succ n =>
      obtain ⟨b, o, rfl, hlt⟩ := plain_of (a := a) (by have := hcell 0 (by omega); simpa [Addr.add] using this)
      have hlen : (ss.take (n + 1)).length = n + 1 := by rw [List.length_take]; omega
      refine ⟨ss.take (n + 1), .inr ⟨b, o, cap, by rw [hlen]; exact hc, by omega, hm, hlt, fun i s hi => ?_⟩⟩
      have hi2 : i < n + 1 := by have := (List.getElem?_eq_some_iff.1 hi).1; omega
      rw [List.getElem?_take_of_lt hi2] at hi
      have h3 := hcell i (by omega)
      rw [add_plain] at h3
      have e : ss.getD i ByteArray.empty = s := by rw [List.getD_eq_getElem?_getD, hi]; rfl
      rw [e] at h3
      exact ⟨hsz s (List.mem_of_getElem? hi), h3⟩
set_option maxRecDepth 100000 in
theorem open_names {r : Reach} {b0 : Nat} {v : Value} {d : DataW H} {p : List MemPlace} (hv : Value.okWide Tryz.prog w r b0 22 v) (h : DataW.Trod enc Tryz.prog w 0 (fun _ => true) held 22 v d p) :
    ∃ nv ns, v = nv ∧ NamesIn (fun k => k < w.heap.size) w nv ns := by
  obtain ⟨a, l, c, rfl⟩ := okWide_slice Tryz.underlying22 hv
  obtain ⟨fuel, hf⟩ := h
  obtain ⟨ns, hn⟩ := names_of hf
  exact ⟨_, ns, rfl, hn⟩
end
/-- How far the law's list is: its types, whose constructors lie apart from the list itself. -/
structure MkAt (W : World) (pb : Nat) (ts : List En) (f : Nat) (ev : Value) (w : World) : Prop where
  prog : ProgAt W pb ts ts.length ev w
  names : ∀ t ∈ ts, NamesIn (fun k => k < w.heap.size ∧ k ≠ pb ∧ ev.ownBlock ≠ some k) w t.v t.cs
  tot : (ts.flatMap En.cs).length = f
theorem MkAt.keep {S : Nat → Prop} {W w w' : World} {pb f : Nat} {ts : List En} {ev : Value} (h : MkAt W pb ts f ev w) (hk : Keeps S w w') (hS : ∀ k, S k → w.heap.size ≤ k) : MkAt W pb ts f ev w' := by
  have hw := h.prog.below.size
  have hpb : pb < w.heap.size := World.block_lt_of_cell? w ⟨pb, 0, none⟩ h.prog.c0
  refine ⟨h.prog.keep hk (fun k hs => ⟨by have := hS k hs; omega, by have := hS k hs; omega, fun e => by have := (h.prog.own.lt _ e).2; have := hS k hs; omega⟩), fun t ht => ?_, h.tot⟩
  exact ((h.names t ht).keep (w' := w') (fun b o v hb hc => hk.cell hc (fun hs => by have := hS b hs; omega))).mono fun k hk2 => ⟨Nat.lt_of_lt_of_le hk2.1 hk.size, hk2.2⟩
/-- A type is added. -/
theorem MkAt.push {W w w2 : World} {pb f g cap : Nat} {ts : List En} {ev : Value} {x : En} {ob : Obj} (h : MkAt W pb ts f ev w) (hn : NamesIn (fun k => k < w.heap.size ∧ k ≠ pb ∧ ev.ownBlock ≠ some k) w x.v x.cs)
    (hown : w2.ownsRow (pb + 1) 32 4 (.slice (some ⟨g, 0, none⟩) (ts.length + 1) cap) (ts.length + 1) ((ts.take ts.length).flatMap enumV ++ enumV x)) (hgrow : (w.alloc ob).grownBy w2 ev.ownBlock) (hat : ev.ownBlock = some g ∨ g = w.heap.size + 1) :
    MkAt W pb (ts ++ [x]) (f + x.cs.length) (.slice (some ⟨g, 0, none⟩) (ts.length + 1) cap) (w2.setCell ⟨pb, 0, none⟩ (.slice (some ⟨g, 0, none⟩) (ts.length + 1) cap)) := by
  have htk : (ts ++ [x]).take ts.length = ts.take ts.length := by simp
  have hp : ProgAt W pb (ts ++ [x]) ts.length ev w := ⟨h.prog.below, h.prog.wp, h.prog.c0, h.prog.c1, h.prog.f0, h.prog.f1, by rw [htk]; exact h.prog.own⟩
  have hx : (ts ++ [x])[ts.length]? = some x := by simp
  have hpn := hp.push hx (by rw [htk]; exact hown) hgrow
  have k2 : Keeps (fun k => ev.ownBlock = some k) w w2 := ((Keeps.refl _ w).alloc ob).trans (Keeps.grownB hgrow)
  have k2' : Keeps (fun k => ev.ownBlock = some k ∨ k = pb) w w2 := k2.mono fun k _ h => Or.inl h
  have k3 : Keeps (fun k => ev.ownBlock = some k ∨ k = pb) w (w2.setCell ⟨pb, 0, none⟩ (.slice (some ⟨g, 0, none⟩) (ts.length + 1) cap)) := k2'.setCell (p := ⟨pb, 0, none⟩) (Or.inr rfl) _
  refine ⟨by rw [List.length_append, List.length_singleton]; exact hpn, fun t ht => ?_, by rw [List.flatMap_append, List.length_append, h.tot]; simp⟩
  have hnt : NamesIn (fun k => k < w.heap.size ∧ k ≠ pb ∧ ev.ownBlock ≠ some k) w t.v t.cs := by
    rcases List.mem_append.1 ht with h1 | h1
    · exact h.names t h1
    · obtain rfl : t = x := by simpa using h1
      exact hn
  refine (hnt.keep (w' := w2.setCell ⟨pb, 0, none⟩ (.slice (some ⟨g, 0, none⟩) (ts.length + 1) cap)) (fun b o v hb hc => k3.cell hc (fun hs => by rcases hs with hs | hs; exact hb.2.2 hs; exact hb.2.1 hs))).mono fun k hk => ⟨Nat.lt_of_lt_of_le hk.1 k3.size, hk.2.1, fun e => ?_⟩
  simp only [Value.ownBlock, Option.some.injEq] at e
  subst e
  rcases hat with e | e
  · exact hk.2.2 e
  · omega
theorem MkAt.row {W w : World} {pb f : Nat} {ts : List En} {ev : Value} (h : MkAt W pb ts f ev w) : EnRow (fun k => k < w.heap.size ∧ k ≠ pb) w ev ts := by
  have ho := h.prog.own
  rw [List.take_length] at ho
  exact row_of_own ho (fun g hg hlt => ⟨hlt, by omega⟩) fun t ht => (h.names t ht).mono fun k hk => ⟨hk.1, hk.2.1⟩
end Tx
end Go.Proofs.YtecfknbhnhcioaaGreatDoor
