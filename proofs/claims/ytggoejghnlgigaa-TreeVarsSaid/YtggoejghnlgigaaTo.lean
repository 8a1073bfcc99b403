/- An expression that comes in from outside: where it lies. -/
import Derived.Test.YtggoejghnlgigaaTx
import Derived.SliceStrings
import Derived.Lib.SmallJoins
namespace Go.Proofs.Ytggoejghnlgigaa
open Go.ChangeShapes Go.WideShapes Go.ChangeAt Go.RowKit Go.Joins
namespace Tx
set_option linter.unusedVariables false
set_option linter.unusedSimpArgs false
/-- What is known of an expression's numbers. -/
def WfD (d : Dt) : Prop := (Lit.int .u8 d.k).wf = true ∧ (Lit.int .u8 d.op).wf = true ∧ (Lit.int .i32 d.n).wf = true ∧ (Lit.int .i64 d.line).wf = true ∧ (Lit.int .i64 d.col).wf = true
/-- Expressions side by side, one by one. -/
theorem fo_of {B : Nat → Prop} {w : World} {b : Nat} (hB : B b) : ∀ (n o : Nat), (∀ i, i < n → ∃ d ks nv kv, (∀ j v, (cells d nv kv)[j]? = some v → w.cell? ⟨b, o + i * 8 + j, none⟩ = some v) ∧ NamesIn B w nv d.ns ∧ KidsIn B w kv ks) →
    ∃ f : Fo, f.len = n ∧ FoIn B w f b o
  | 0, _, _ => ⟨.nil, rfl, trivial⟩
  | n + 1, o, h => by
    obtain ⟨d, ks, nv, kv, hc, hn, hk⟩ := h 0 (Nat.succ_pos _)
    obtain ⟨r, hr, hi⟩ := fo_of hB n (o + 8) (fun i hi => by
      obtain ⟨d, ks, nv, kv, hc, hn, hk⟩ := h (i + 1) (Nat.succ_lt_succ hi)
      exact ⟨d, ks, nv, kv, fun j v hj => by have := hc j v hj; rwa [show o + (i + 1) * 8 + j = o + 8 + i * 8 + j by omega] at this, hn, hk⟩)
    exact ⟨.cons d ks r, by simp [Fo.len, hr], hB, ⟨nv, kv, fun j v hj => by simpa using hc j v hj, hn, hk⟩, hi⟩
section
variable {H : Type} {enc : TypeId × Value → H} {w : World} {held : Bool}
theorem plain_of {a : Addr} {v : Value} (h : w.cell? a = some v) : ∃ b o, a = ⟨b, o, none⟩ ∧ b < w.heap.size := by
  obtain ⟨b, o, sp⟩ := a
  obtain rfl : sp = none := World.cell?_spot h
  exact ⟨b, o, rfl, World.block_lt_of_cell? w _ h⟩
theorem names_of {fuel : Nat} {v : Value} {x : DataW H × List MemPlace} (h : DataW.trod enc Try.prog w 0 (fun _ => true) held fuel 25 [v] = some x) : ∃ ns, NamesIn (fun k => k < w.heap.size) w v ns := by
  rcases open_strings Try.underlying25 Try.underlying9 (by kernel_rfl) h with ⟨hc, _⟩ | ⟨a, len, cap, ss, hc, _, hl, hm, hz, _, hcell, hsz⟩
  · simp only [List.cons.injEq, and_true] at hc
    exact ⟨[], .inl ⟨⟨_, _, hc⟩, rfl⟩⟩
  · simp only [List.cons.injEq, and_true] at hc
    simp only [if_true] at hz
    cases len with
    | zero => exact ⟨[], .inl ⟨⟨_, _, hc⟩, rfl⟩⟩
    | succ n =>
      obtain ⟨b, o, rfl, hlt⟩ := plain_of (a := a) (by have := hcell 0 (by omega); simpa [Addr.add] using this)
      have hlen : (ss.take (n + 1)).length = n + 1 := by rw [List.length_take]; omega
      refine ⟨ss.take (n + 1), .inr ⟨b, o, cap, by rw [hlen]; exact hc, by omega, hm, hlt, fun i s hi => ?_⟩⟩
      have hi2 : i < n + 1 := by have := (List.getElem?_eq_some_iff.1 hi).1; omega
      rw [List.getElem?_take_of_lt hi2] at hi
      have h3 := hcell i (by omega)
      rw [add_plain] at h3
      have e : ss.getD i ByteArray.empty = s := by rw [List.getD_eq_getElem?_getD, hi]; rfl
      rw [e] at h3
      exact ⟨hsz s (List.mem_of_getElem? hi), h3⟩
theorem fld {fs : Array Field} {n : Nat} {cs : List Value} {xs : List (DataW H × List MemPlace)} (hl : xs.length = fs.size)
    (hf : ∀ (i : Nat) (f : Field), fs[i]? = some f → DataW.trod enc Try.prog w 0 (fun _ => true) held n f.type ((cs.drop f.offset).take (Try.prog.cellsOf f.type)) = xs[i]?) (i : Nat) {f : Field} (hi : fs[i]? = some f)
    {t : TypeId} {c : Nat} (hc : Try.prog.cellsOf t = c) (o : Nat) (ht : f.type = t) (ho : f.offset = o) {cs' : List Value} (hcs : (cs.drop o).take c = cs') :
    ∃ y, DataW.trod enc Try.prog w 0 (fun _ => true) held n t cs' = some y := by
  have h := hf i f hi
  have hlt : i < xs.length := by have := (Array.getElem?_eq_some_iff.1 hi).1; omega
  rw [ht, ho, hc, hcs] at h
  exact ⟨xs[i], by rw [h, List.getElem?_eq_getElem hlt]⟩
theorem list8 {cs : List Value} (h : cs.length = 8) : ∃ c0 c1 c2 c3 c4 c5 c6 c7, cs = [c0, c1, c2, c3, c4, c5, c6, c7] := by
  rcases cs with _ | ⟨c0, _ | ⟨c1, _ | ⟨c2, _ | ⟨c3, _ | ⟨c4, _ | ⟨c5, _ | ⟨c6, _ | ⟨c7, _ | ⟨c8, r⟩⟩⟩⟩⟩⟩⟩⟩⟩ <;> simp at h
  exact ⟨c0, c1, c2, c3, c4, c5, c6, c7, rfl⟩
/-- An expression that comes in lies in memory as one. -/
theorem expr_of : ∀ (fuel : Nat) (cs : List Value) (x : DataW H × List MemPlace), DataW.trod enc Try.prog w 0 (fun _ => true) held fuel 30 cs = some x →
    ∃ d ks nv kv, cs = cells d nv kv ∧ WfD d ∧ NamesIn (fun k => k < w.heap.size) w nv d.ns ∧ KidsIn (fun k => k < w.heap.size) w kv ks := by
  intro fuel
  induction fuel using Nat.strongRecOn with
  | _ fuel ih =>
    intro cs x h
    obtain ⟨xs, n, rfl, _, hl, hxs, hf⟩ := DataW.trod_struct Try.underlying30 h
    rw [show Try.prog.cellsOf 30 = 8 by kernel_rfl] at hl
    obtain ⟨c0, c1, c2, c3, c4, c5, c6, c7, rfl⟩ := list8 hl
    have e1 : Try.prog.cellsOf 5 = 1 := by kernel_rfl
    have e2 : Try.prog.cellsOf 21 = 1 := by kernel_rfl
    have e3 : Try.prog.cellsOf 9 = 1 := by kernel_rfl
    have e4 : Try.prog.cellsOf 25 = 1 := by kernel_rfl
    have e5 : Try.prog.cellsOf 26 = 1 := by kernel_rfl
    have e6 : Try.prog.cellsOf 28 = 2 := by kernel_rfl
    have e7 : Try.prog.cellsOf 3 = 1 := by kernel_rfl
    have e8 : Try.prog.cellsOf 30 = 8 := by kernel_rfl
    obtain ⟨y0, h0⟩ := fld (cs' := [c0]) hxs hf 0 rfl e1 0 rfl rfl rfl
    obtain ⟨y1, h1⟩ := fld (cs' := [c1]) hxs hf 1 rfl e1 1 rfl rfl rfl
    obtain ⟨y2, h2⟩ := fld (cs' := [c2]) hxs hf 2 rfl e2 2 rfl rfl rfl
    obtain ⟨y3, h3⟩ := fld (cs' := [c3]) hxs hf 3 rfl e3 3 rfl rfl rfl
    obtain ⟨y4, h4⟩ := fld (cs' := [c4]) hxs hf 4 rfl e4 4 rfl rfl rfl
    obtain ⟨y5, h5⟩ := fld (cs' := [c5]) hxs hf 5 rfl e5 5 rfl rfl rfl
    obtain ⟨y6, h6⟩ := fld (cs' := [c6, c7]) hxs hf 6 rfl e6 6 rfl rfl rfl
    clear hf hxs
    obtain ⟨k, g0, _, w0⟩ := DataW.trod_int (cs := [c0]) Try.underlying5 h0
    obtain ⟨op, g1, _, w1⟩ := DataW.trod_int (cs := [c1]) Try.underlying5 h1
    obtain ⟨nn, g2, _, w2⟩ := DataW.trod_int (cs := [c2]) Try.underlying21 h2
    obtain ⟨nm, g3, _, w3⟩ := DataW.trod_string (cs := [c3]) Try.underlying9 h3
    obtain ⟨ns, hn⟩ := names_of (v := c4) h4
    obtain ⟨xs6, n6, rfl, _, _, hxs6, hf6⟩ := DataW.trod_struct (cs := [c6, c7]) Try.underlying28 h6
    obtain ⟨z0, k0⟩ := fld (cs' := [c6]) hxs6 hf6 0 rfl e7 0 rfl rfl rfl
    obtain ⟨z1, k1⟩ := fld (cs' := [c7]) hxs6 hf6 1 rfl e7 1 rfl rfl rfl
    clear hf6 hxs6
    obtain ⟨line, g6, _, w6⟩ := DataW.trod_int (cs := [c6]) Try.underlying3 k0
    obtain ⟨col, g7, _, w7⟩ := DataW.trod_int (cs := [c7]) Try.underlying3 k1
    simp only [List.cons.injEq, and_true] at g0 g1 g2 g3 g6 g7
    subst g0 g1 g2 g3 g6 g7
    have hk : ∃ ks, KidsIn (fun k => k < w.heap.size) w c5 ks := by
      rcases DataW.trod_slice (cs := [c5]) Try.underlying26 h5 with ⟨hc, _⟩ | ⟨a, len, cap, elems, rest, m, hm, hc, _, _, hl1, hmax, hlen, hel, _, _⟩
      · simp only [List.cons.injEq, and_true] at hc
        exact ⟨.nil, .inl ⟨⟨_, _, hc⟩, rfl⟩⟩
      · simp only [List.cons.injEq, and_true] at hc
        rw [e8] at hel
        have each : ∀ i, i < len → ∃ d ks nv kv, (∀ j v, (cells d nv kv)[j]? = some v → w.cell? ((a.add (i * 8)).add j) = some v) ∧ NamesIn (fun k => k < w.heap.size) w nv d.ns ∧ KidsIn (fun k => k < w.heap.size) w kv ks := by
          intro i hi
          have h := hel i hi
          rw [List.getElem?_eq_getElem (by omega), Option.bind_eq_some_iff] at h
          obtain ⟨cs', hcs, hy⟩ := h
          obtain ⟨d, ks, nv, kv, rfl, _, hn, hk⟩ := ih m (by omega) cs' _ hy
          obtain ⟨_, _, hcell⟩ := World.cells?_some hcs
          refine ⟨d, ks, nv, kv, fun j v hj => ?_, hn, hk⟩
          rw [hcell j (by have := (List.getElem?_eq_some_iff.1 hj).1; simpa [cells] using this), hj]
        cases len with
        | zero => exact ⟨.nil, .inl ⟨⟨_, _, hc⟩, rfl⟩⟩
        | succ q =>
          obtain ⟨d0, ks0, nv0, kv0, h00, _⟩ := each 0 (by omega)
          have h01 := h00 0 _ rfl
          rw [show (a.add (0 * 8)).add 0 = a by simp [Addr.add]] at h01
          obtain ⟨b, o, rfl, hlt⟩ := plain_of h01
          obtain ⟨f, hfl, hfi⟩ := fo_of (B := fun k => k < w.heap.size) (w := w) hlt (q + 1) o (fun i hi => by
            obtain ⟨d, ks, nv, kv, h, hn, hk⟩ := each i hi
            exact ⟨d, ks, nv, kv, fun j v hj => by have := h j v hj; rwa [add_plain, add_plain] at this, hn, hk⟩)
          exact ⟨f, .inr ⟨b, o, cap, by rw [hfl]; exact hc, by omega, hmax, hfi⟩⟩
    obtain ⟨ks, hk⟩ := hk
    exact ⟨⟨k, op, nn, nm, w3, ns, line, col⟩, ks, c4, c5, rfl, ⟨w0, w1, w2, w6, w7⟩, hn, hk⟩
end
end Tx
end Go.Proofs.Ytggoejghnlgigaa
