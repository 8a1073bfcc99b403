/- Chains of Ats in worlds of the same heap. -/
import Derived.Test.YtlmfjaaooklhnaaDoorFNil
import Derived.Deep.RegionWith
namespace Go.Proofs.YtlmfjaaooklhnaaDoor
open Go.ChangeShapes Go.WideShapes Go.ChangeAt Go.RowKit Go.Extern.Stop Go.Stop Go.Extern
namespace Fk
theorem chain_top {W w : World} {line col : Int} {nm : ByteArray} (h : W.heap = w.heap.push (.cells #[.int .i64 line, .int .i64 col, .string nm, .bool false, .nilIface] 41 (0, 0))) : Chain W none [(line, col, false)] (.iface 39 (.pointer (some ⟨w.heap.size, 0, none⟩))) := by
  have hA : AtObj W w.heap.size line col nm false .nilIface := by unfold AtObj; rw [h]; simp
  exact hA.link rfl
theorem chain_as {k : Option Int} {w w' : World} (h : w'.heap = w.heap) : ∀ {l : List (Int × Int × Bool)} {v : Value}, Chain w k l v → Chain w' k l v
  | [], v, h' => h'
  | (line, col, d) :: l, v, ⟨pb, po, u, he, c0, c1, c3, c4, hc⟩ =>
    have e : ∀ p, w'.cell? p = w.cell? p := fun p => World.cell?_of_block (w := w) (by rw [h])
    ⟨pb, po, u, he, (e _).trans c0, (e _).trans c1, (e _).trans c3, (e _).trans c4, chain_as h hc⟩
theorem below_as {W w w' : World} (h : W.heap = w.heap) (h1 : W.os = w.os) (h2 : W.tape = w.tape) (h3 : W.output = w.output) (hb : Below W.heap.size W w') : Below w.heap.size w w' :=
  ⟨hb.os.trans h1, hb.tape.trans h2, hb.output.trans h3, by have := hb.size; rw [h] at this; exact this, fun k hk => by
    rw [hb.block k (by rw [h]; exact hk), h]⟩
theorem below_top {W w w' : World} {o : Obj} (h : W.heap = w.heap.push o) (h1 : W.os = w.os) (h2 : W.tape = w.tape) (h3 : W.output = w.output) (hb : Below W.heap.size W w') : Below w.heap.size w w' :=
  have hz : W.heap.size = w.heap.size + 1 := by rw [h]; simp
  ⟨hb.os.trans h1, hb.tape.trans h2, hb.output.trans h3, by have := hb.size; omega, fun k hk => by
    rw [hb.block k (by omega), h, Array.getElem?_push, if_neg (by omega)]⟩
end Fk
end Go.Proofs.YtlmfjaaooklhnaaDoor
