/- The law's type that is being made. -/
import Derived.Test.YtecfknbhnhcioaaGreatDoorNo
import Derived.Deep.RegionLaw
import Derived.Deep.RegionLawGrows
namespace Go.Proofs.YtecfknbhnhcioaaGreatDoor
open Go.ChangeShapes Go.WideShapes Go.ChangeAt Go.RowKit Go.Maps
namespace Tx
set_option linter.unusedVariables false
set_option linter.unusedSimpArgs false
structure EAt (W5 : World) (eb : Nat) (nm : ByteArray) (cv : Value) (cs : List ByteArray) (w : World) : Prop where
  keeps : Keeps (fun k => k = eb) W5 w
  c0 : w.cell? ⟨eb, 0, none⟩ = some (.string nm)
  c1 : w.cell? ⟨eb, 1, none⟩ = some cv
  c2 : w.cell? ⟨eb, 2, none⟩ = some (.int .i64 0)
  c3 : w.cell? ⟨eb, 3, none⟩ = some (.int .i64 0)
  f1 : w.frozen? ⟨eb, 1, none⟩ = false
  own : w.ownsRow (eb + 1) 9 1 cv cs.length (cs.map Value.string)
  small : ∀ s ∈ cs, s.size ≤ maxLen
theorem EAt.grown {W5 w w2 : World} {eb : Nat} {nm : ByteArray} {cv : Value} {cs : List ByteArray} {ob : Obj} (h : EAt W5 eb nm cv cs w) (hgrow : (w.alloc ob).grownBy w2 cv.ownBlock) : w2.cell? ⟨eb, 1, none⟩ = some cv ∧ w2.frozen? ⟨eb, 1, none⟩ = false := by
  have k2 : Keeps (fun k => cv.ownBlock = some k) w w2 := ((Keeps.refl _ w).alloc ob).trans (Keeps.grownB hgrow)
  have hp : ¬ cv.ownBlock = some eb := fun e => by have := (h.own.lt _ e).1; omega
  exact ⟨k2.cell h.c1 hp, (World.frozen?_of_block (k2.block eb (World.block_lt_of_cell? w ⟨eb, 1, none⟩ h.c1) hp)).trans h.f1⟩
theorem EAt.push {W5 w w2 : World} {eb g cap : Nat} {nm s : ByteArray} {cv : Value} {cs : List ByteArray} {ob : Obj} (h : EAt W5 eb nm cv cs w) (hz : W5.heap.size = eb + 1) (hs : s.size ≤ maxLen)
    (hown : w2.ownsRow (eb + 1) 9 1 (.slice (some ⟨g, 0, none⟩) (cs.length + 1) cap) (cs.length + 1) (cs.map Value.string ++ [.string s])) (hgrow : (w.alloc ob).grownBy w2 cv.ownBlock) :
    EAt W5 eb nm (.slice (some ⟨g, 0, none⟩) (cs.length + 1) cap) (cs ++ [s]) (w2.setCell ⟨eb, 1, none⟩ (.slice (some ⟨g, 0, none⟩) (cs.length + 1) cap)) := by
  have k2 : Keeps (fun k => cv.ownBlock = some k) w w2 := ((Keeps.refl _ w).alloc ob).trans (Keeps.grownB hgrow)
  have hp : ¬ cv.ownBlock = some eb := fun e => by have := (h.own.lt _ e).1; omega
  have k3 : Keeps (fun k => k = eb) w2 (w2.setCell ⟨eb, 1, none⟩ (.slice (some ⟨g, 0, none⟩) (cs.length + 1) cap)) := (Keeps.refl (fun k => k = eb) w2).setCell (p := ⟨eb, 1, none⟩) rfl _
  have d := h.grown hgrow
  have d0 := k2.cell h.c0 hp
  have d2 := k2.cell h.c2 hp
  have d3 := k2.cell h.c3 hp
  have d1 := d.1
  have e1 := d.2
  refine ⟨⟨k3.os.trans (k2.os.trans h.keeps.os), k3.tape.trans (k2.tape.trans h.keeps.tape), k3.output.trans (k2.output.trans h.keeps.output), Nat.le_trans h.keeps.size (Nat.le_trans k2.size k3.size), fun k hlt hne => ?_⟩, ?_, ?_, ?_, ?_, ?_, ?_, ?_⟩
  · have h1 := h.keeps.size
    have h2 := k2.size
    rw [k3.block k (by omega) hne, k2.block k (by omega) (fun e => by have := (h.own.lt _ e).1; omega), h.keeps.block k hlt hne]
  · simp [go_sem, d0]
  · simp [go_sem, d1]
  · simp [go_sem, d2]
  · simp [go_sem, d3]
  · simp [go_sem, e1]
  · have := own_keep hown k3 (fun g' hg e => by have := (hown.lt _ hg).1; omega)
    simpa using this
  · intro x hx
    rcases List.mem_append.1 hx with h1 | h1
    · exact h.small x h1
    · obtain rfl : x = s := by simpa using h1
      exact hs
theorem names_of_own2 {w' : World} {base : Nat} {t : TypeId} {v' : Value} {ns : List ByteArray} (h : w'.ownsRow base t 1 v' ns.length (ns.map Value.string)) (hs : ∀ s ∈ ns, s.size ≤ maxLen) : NamesIn (fun k => base ≤ k ∧ k < w'.heap.size) w' v' ns := by
  rcases h.2 with ⟨hv, h0⟩ | ⟨g, cap, cur, hv, h1, h2, h3, h4, h5, h6⟩
  · exact .inl ⟨⟨none, 0, hv⟩, List.length_eq_zero_iff.1 h0⟩
  · refine .inr ⟨g, 0, cap, hv, h3, h4, ⟨h1, (Array.getElem?_eq_some_iff.1 h2).1⟩, fun i s hi => ⟨hs s (List.mem_of_getElem? hi), ?_⟩⟩
    have hc := h.cells (g := g) (by rw [hv]; rfl) i (.string s) (by rw [List.getElem?_map, hi]; rfl)
    have hadd : (⟨g, 0, none⟩ : Addr).add i = ⟨g, i, none⟩ := by unfold Addr.add; split <;> simp_all
    rw [hadd] at hc
    rw [Nat.zero_add]
    exact hc
theorem grow_drew {w w' : World} {o : Obj} {r : Option Nat} (h : (w.alloc o).drew.grownBy w' r) : (w.alloc o).grownBy w' r := ⟨h.os, h.tape, h.output, h.size, h.block⟩
theorem own_drew {w : World} {base : Nat} {t : TypeId} {size n : Nat} {v : Value} {xs : List Value} (h : w.ownsRow base t size v n xs) : w.drew.ownsRow base t size v n xs := h
theorem alloc_law (w : World) (o : Obj) : (w.alloc o).drew.heap[w.heap.size]? = some o := by
  have key : ∀ (a : Array Obj) (o : Obj), (a.push o)[a.size]? = some o := by intro a o; simp
  exact key _ _
theorem EnRow.mono {B B' : Nat → Prop} {w : World} {v : Value} {ts : List En} (h : EnRow B w v ts) (hB : ∀ k, B k → B' k) : EnRow B' w v ts := by
  rcases h with h | ⟨b, cap, h1, h2, h3, h4, h5⟩
  · exact .inl h
  · exact .inr ⟨b, cap, h1, h2, h3, hB b h4, fun i t hi => ⟨(h5 i t hi).1, (h5 i t hi).2.mono hB⟩⟩
theorem EnRow.below {w w' : World} {v : Value} {ts : List En} (h : EnRow (fun k => k < w.heap.size) w v ts) (hb : Below w.heap.size w w') : EnRow (fun k => k < w'.heap.size) w' v ts :=
  (h.keep (w' := w') (fun b o v hB hc => (hb.cell (p := ⟨b, o, none⟩) hB).trans hc)).mono fun k hk => Nat.lt_of_lt_of_le hk hb.size
theorem FaultOut.below {k : Int} {o : Option (Int × Int)} {r : Value} {w w' : World} (h : FaultOut k o r w) (hb : Below w.heap.size w w') : FaultOut k o r w' := by
  cases o with
  | none => exact h
  | some p =>
    obtain ⟨b, e, he⟩ := h
    exact ⟨b, e, he.below hb he.lt⟩
end Tx
end Go.Proofs.YtecfknbhnhcioaaGreatDoor
