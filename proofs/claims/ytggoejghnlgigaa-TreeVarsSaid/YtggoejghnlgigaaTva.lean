/- Variables: where they lie; when two are one. -/
import Derived.Test.YtggoejghnlgigaaTk
import Derived.Test.YtggoejghnlgigaaTsr
import Derived.Test.YtggoejghnlgigaaTop
namespace Go.Proofs.Ytggoejghnlgigaa
open Go.ChangeShapes Go.WideShapes Go.ChangeAt Go.RowKit Go.Maps Go.Joins
namespace Tx
set_option linter.unusedVariables false
set_option linter.unusedSimpArgs false
structure Vd where
  nm : ByteArray
  tk : Int
  tn : ByteArray
  ck : Ck
  last : Bool
  d : Dt
  ks : Fo
  line : Int
  col : Int
def vcells (x : Vd) (cv nv kv : Value) : List Value := [.string x.nm, .int .u8 x.tk, .string x.tn, cv, .bool x.last, .int .u8 x.d.k, .int .u8 x.d.op, .int .i32 x.d.n, .string x.d.nm, nv, kv, .int .i64 x.d.line, .int .i64 x.d.col, .int .i64 x.line, .int .i64 x.col]
def varV (x : Vd) (cv nv kv : Value) : Value := .agg #[.string x.nm, .int .u8 x.tk, .string x.tn, cv, .bool x.last, .int .u8 x.d.k, .int .u8 x.d.op, .int .i32 x.d.n, .string x.d.nm, nv, kv, .int .i64 x.d.line, .int .i64 x.d.col, .int .i64 x.line, .int .i64 x.col]
structure VarIn (B : Nat → Prop) (w : World) (x : Vd) (cv nv kv : Value) : Prop where
  ck : CkIn B w cv x.ck
  ns : NamesIn B w nv x.d.ns
  ks : KidsIn B w kv x.ks
theorem VarIn.keep {B : Nat → Prop} {w w' : World} (hb : ∀ b o v, B b → w.cell? ⟨b, o, none⟩ = some v → w'.cell? ⟨b, o, none⟩ = some v) {x : Vd} {cv nv kv : Value} (h : VarIn B w x cv nv kv) : VarIn B w' x cv nv kv := ⟨h.ck.keep hb, h.ns.keep hb, h.ks.keep hb⟩
theorem VarIn.mono {B B' : Nat → Prop} (hB : ∀ k, B k → B' k) {w : World} {x : Vd} {cv nv kv : Value} (h : VarIn B w x cv nv kv) : VarIn B' w x cv nv kv := ⟨h.ck.mono hB, h.ns.mono hB, h.ks.mono hB⟩
def sameV (x y : Vd) : Bool := (x.nm.toList == y.nm.toList) && (((x.tk == y.tk) && (x.tn.toList == y.tn.toList)) && (sameC x.ck y.ck && ((x.last == y.last) && sameE x.d x.ks y.d y.ks)))
theorem sameV_self (x : Vd) : sameV x x = true := by simp [sameV, sameC_self, sameE, sameD_self, sameF_self]
section
variable {H : Type} {enc : TypeId × Value → H} {w : World} {held : Bool}
/-- A clock that comes in. -/
theorem clock_of {fuel : Nat} {v : Value} {x : DataW H × List MemPlace} (h : DataW.trod enc Try.prog w 0 (fun _ => true) held fuel 24 [v] = some x) : ∃ l, CkIn (fun k => k < w.heap.size) w v l := by
  have e2 : Try.prog.cellsOf 66 = 2 := by kernel_rfl
  have e1 : Try.prog.cellsOf 9 = 1 := by kernel_rfl
  rcases DataW.trod_slice (cs := [v]) Try.underlying24 h with ⟨hc, _⟩ | ⟨a, len, cap, elems, rest, m, hm, hc, _, _, hl1, hmax, hlen, hel, _, _⟩
  · simp only [List.cons.injEq, and_true] at hc
    exact ⟨[], .inl ⟨⟨_, _, hc⟩, rfl⟩⟩
  · simp only [List.cons.injEq, and_true] at hc
    rw [e2] at hel
    have each : ∀ i, i < len → ∃ c s, w.cell? ((a.add (i * 2)).add 0) = some (.string c) ∧ w.cell? ((a.add (i * 2)).add 1) = some (.string s) := by
      intro i hi
      have h := hel i hi
      rw [List.getElem?_eq_getElem (by omega), Option.bind_eq_some_iff] at h
      obtain ⟨cs', hcs, hy⟩ := h
      obtain ⟨_, hcl, hcell⟩ := World.cells?_some hcs
      obtain ⟨xs, n, rfl, _, _, hxs, hf⟩ := DataW.trod_struct Try.underlying66 hy
      obtain ⟨c0, c1, rfl⟩ : ∃ c0 c1, cs' = [c0, c1] := by
        rcases cs' with _ | ⟨c0, _ | ⟨c1, _ | ⟨c2, r⟩⟩⟩ <;> simp at hcl
        exact ⟨c0, c1, rfl⟩
      obtain ⟨y0, h0⟩ := fld (cs' := [c0]) hxs hf 0 rfl e1 0 rfl rfl rfl
      obtain ⟨y1, h1⟩ := fld (cs' := [c1]) hxs hf 1 rfl e1 1 rfl rfl rfl
      obtain ⟨c, g0, _, _⟩ := DataW.trod_string (cs := [c0]) Try.underlying9 h0
      obtain ⟨s, g1, _, _⟩ := DataW.trod_string (cs := [c1]) Try.underlying9 h1
      simp only [List.cons.injEq, and_true] at g0 g1
      subst g0 g1
      exact ⟨c, s, by rw [hcell 0 (by omega)]; rfl, by rw [hcell 1 (by omega)]; rfl⟩
    cases len with
    | zero => exact ⟨[], .inl ⟨⟨_, _, hc⟩, rfl⟩⟩
    | succ q =>
      obtain ⟨c0, s0, h00, _⟩ := each 0 (by omega)
      rw [show (a.add (0 * 2)).add 0 = a by simp [Addr.add]] at h00
      obtain ⟨b, o, rfl, hlt⟩ := plain_of h00
      have hl : ∀ n, n ≤ q + 1 → ∃ l : Ck, l.length = n ∧ ∀ i c s, l[i]? = some (c, s) → w.cell? ⟨b, o + i * 2, none⟩ = some (.string c) ∧ w.cell? ⟨b, o + i * 2 + 1, none⟩ = some (.string s) := by
        intro n
        induction n with
        | zero => intro _; exact ⟨[], rfl, fun i c s h => by simp at h⟩
        | succ n ih =>
          intro hn
          obtain ⟨l, h1, h2⟩ := ih (by omega)
          obtain ⟨c, s, h3, h4⟩ := each n (by omega)
          rw [add_plain, add_plain] at h3 h4
          refine ⟨l ++ [(c, s)], by simp [h1], fun i c' s' hi => ?_⟩
          by_cases hin : i < n
          · rw [List.getElem?_append_left (by omega)] at hi
            exact h2 i c' s' hi
          · have hlt2 := (List.getElem?_eq_some_iff.1 hi).1
            simp only [List.length_append, List.length_singleton, h1] at hlt2
            obtain rfl : i = n := by omega
            rw [List.getElem?_append_right (by omega), h1, Nat.sub_self] at hi
            simp only [List.getElem?_cons_zero, Option.some.injEq, Prod.mk.injEq] at hi
            obtain ⟨rfl, rfl⟩ := hi
            exact ⟨h3, h4⟩
      obtain ⟨l, h1, h2⟩ := hl (q + 1) (Nat.le_refl _)
      exact ⟨l, .inr ⟨b, o, cap, by rw [h1]; exact hc, by omega, hmax, hlt, h2⟩⟩
theorem list15 {cs : List Value} (h : cs.length = 15) : ∃ c0 c1 c2 c3 c4 c5 c6 c7 c8 c9 c10 c11 c12 c13 c14, cs = [c0, c1, c2, c3, c4, c5, c6, c7, c8, c9, c10, c11, c12, c13, c14] := by
  rcases cs with _ | ⟨c0, _ | ⟨c1, _ | ⟨c2, _ | ⟨c3, _ | ⟨c4, _ | ⟨c5, _ | ⟨c6, cs⟩⟩⟩⟩⟩⟩⟩ <;> simp at h
  obtain ⟨c7, c8, c9, c10, c11, c12, c13, c14, rfl⟩ := list8 h
  exact ⟨c0, c1, c2, c3, c4, c5, c6, c7, c8, c9, c10, c11, c12, c13, c14, rfl⟩
set_option maxRecDepth 100000 in
/-- A variable that comes in. -/
theorem open_var {r : Reach} {b0 : Nat} {v : Value} {d : DataW H} {p : List MemPlace} (hv : Value.okWide Try.prog w r b0 32 v)
    (h : DataW.Trod enc Try.prog w 0 (fun _ => true) held 32 v d p) : ∃ x cv nv kv, v = varV x cv nv kv ∧ VarIn (fun k => k < w.heap.size) w x cv nv kv := by
  obtain ⟨cs, rfl, hsz⟩ := okWide_struct Try.underlying32 hv
  obtain ⟨fuel, hf0⟩ := h
  obtain ⟨xs, n, rfl, _, hl, hxs, hf⟩ := DataW.trod_struct Try.underlying32 hf0
  rw [show Try.prog.cellsOf 32 = 15 by kernel_rfl] at hl
  obtain ⟨c0, c1, c2, c3, c4, c5, c6, c7, c8, c9, c10, c11, c12, c13, c14, hcs⟩ := list15 hl
  rw [hcs] at hf
  have e0 : Try.prog.cellsOf 9 = 1 := by kernel_rfl
  have e1 : Try.prog.cellsOf 23 = 2 := by kernel_rfl
  have e2 : Try.prog.cellsOf 24 = 1 := by kernel_rfl
  have e3 : Try.prog.cellsOf 4 = 1 := by kernel_rfl
  have e4 : Try.prog.cellsOf 30 = 8 := by kernel_rfl
  have e5 : Try.prog.cellsOf 28 = 2 := by kernel_rfl
  have e6 : Try.prog.cellsOf 5 = 1 := by kernel_rfl
  have e7 : Try.prog.cellsOf 3 = 1 := by kernel_rfl
  obtain ⟨y0, h0⟩ := fld (cs' := [c0]) hxs hf 0 rfl e0 0 rfl rfl rfl
  obtain ⟨y1, h1⟩ := fld (cs' := [c1, c2]) hxs hf 1 rfl e1 1 rfl rfl rfl
  obtain ⟨y2, h2⟩ := fld (cs' := [c3]) hxs hf 2 rfl e2 3 rfl rfl rfl
  obtain ⟨y3, h3⟩ := fld (cs' := [c4]) hxs hf 3 rfl e3 4 rfl rfl rfl
  obtain ⟨y4, h4⟩ := fld (cs' := [c5, c6, c7, c8, c9, c10, c11, c12]) hxs hf 4 rfl e4 5 rfl rfl rfl
  obtain ⟨y5, h5⟩ := fld (cs' := [c13, c14]) hxs hf 5 rfl e5 13 rfl rfl rfl
  clear hf hxs
  obtain ⟨nm, g0, _, _⟩ := DataW.trod_string (cs := [c0]) Try.underlying9 h0
  obtain ⟨xs1, n1, _, _, _, hxs1, hf1⟩ := DataW.trod_struct (cs := [c1, c2]) Try.underlying23 h1
  obtain ⟨z0, k0⟩ := fld (cs' := [c1]) hxs1 hf1 0 rfl e6 0 rfl rfl rfl
  obtain ⟨z1, k1⟩ := fld (cs' := [c2]) hxs1 hf1 1 rfl e0 1 rfl rfl rfl
  obtain ⟨tk, g1, _, _⟩ := DataW.trod_int (cs := [c1]) Try.underlying5 k0
  obtain ⟨tn, g2, _, _⟩ := DataW.trod_string (cs := [c2]) Try.underlying9 k1
  obtain ⟨ck, hck⟩ := clock_of (v := c3) h2
  obtain ⟨last, g4, _⟩ := DataW.trod_bool (cs := [c4]) Try.underlying4 h3
  obtain ⟨D, ks, nv, kv, ge, _, hn, hk⟩ := expr_of _ _ _ h4
  obtain ⟨xs5, n5, _, _, _, hxs5, hf5⟩ := DataW.trod_struct (cs := [c13, c14]) Try.underlying28 h5
  obtain ⟨z2, k2⟩ := fld (cs' := [c13]) hxs5 hf5 0 rfl e7 0 rfl rfl rfl
  obtain ⟨z3, k3⟩ := fld (cs' := [c14]) hxs5 hf5 1 rfl e7 1 rfl rfl rfl
  obtain ⟨line, g6, _, _⟩ := DataW.trod_int (cs := [c13]) Try.underlying3 k2
  obtain ⟨col, g7, _, _⟩ := DataW.trod_int (cs := [c14]) Try.underlying3 k3
  simp only [List.cons.injEq, and_true, cells] at g0 g1 g2 g4 g6 g7 ge
  obtain ⟨rfl, rfl, rfl, rfl, rfl, rfl, rfl, rfl⟩ := ge
  subst g0 g1 g2 g4 g6 g7
  refine ⟨⟨nm, tk, tn, ck, last, D, ks, line, col⟩, c3, c9, c10, ?_, hck, hn, hk⟩
  have e : cs = (vcells ⟨nm, tk, tn, ck, last, D, ks, line, col⟩ c3 c9 c10).toArray := by
    apply Array.toList_inj.1
    exact hcs
  rw [e]
  rfl
end
end Tx
end Go.Proofs.Ytggoejghnlgigaa
