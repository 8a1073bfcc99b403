/- A clock that comes in from outside: where it lies. -/
import Derived.Test.YtcklccpcajbjeaaTk
import Derived.SliceStrings
import Derived.Lib.SmallJoins
namespace Go.Proofs.Ytcklccpcajbjeaa
open Go.ChangeShapes Go.WideShapes Go.ChangeAt Go.RowKit Go.Joins
namespace Tx
set_option linter.unusedVariables false
set_option linter.unusedSimpArgs false
section
variable {H : Type} {enc : TypeId × Value → H} {w : World} {held : Bool}
theorem plain_of {a : Addr} {v : Value} (h : w.cell? a = some v) : ∃ b o, a = ⟨b, o, none⟩ ∧ b < w.heap.size := by
  obtain ⟨b, o, sp⟩ := a
  obtain rfl : sp = none := World.cell?_spot h
  exact ⟨b, o, rfl, World.block_lt_of_cell? w _ h⟩
theorem fld {fs : Array Field} {n : Nat} {cs : List Value} {xs : List (DataW H × List MemPlace)} (hl : xs.length = fs.size)
    (hf : ∀ (i : Nat) (f : Field), fs[i]? = some f → DataW.trod enc Try.prog w 0 (fun _ => true) held n f.type ((cs.drop f.offset).take (Try.prog.cellsOf f.type)) = xs[i]?) (i : Nat) {f : Field} (hi : fs[i]? = some f)
    {t : TypeId} {c : Nat} (hc : Try.prog.cellsOf t = c) (o : Nat) (ht : f.type = t) (ho : f.offset = o) {cs' : List Value} (hcs : (cs.drop o).take c = cs') :
    ∃ y, DataW.trod enc Try.prog w 0 (fun _ => true) held n t cs' = some y := by
  have h := hf i f hi
  have hlt : i < xs.length := by have := (Array.getElem?_eq_some_iff.1 hi).1; omega
  rw [ht, ho, hc, hcs] at h
  exact ⟨xs[i], by rw [h, List.getElem?_eq_getElem hlt]⟩
/-- A clock that comes in. -/
theorem clock_of {fuel : Nat} {v : Value} {x : DataW H × List MemPlace} (h : DataW.trod enc Try.prog w 0 (fun _ => true) held fuel 22 [v] = some x) : ∃ l, CkIn (fun k => k < w.heap.size) w v l := by
  have e2 : Try.prog.cellsOf 46 = 2 := by kernel_rfl
  have e1 : Try.prog.cellsOf 9 = 1 := by kernel_rfl
  rcases DataW.trod_slice (cs := [v]) Try.underlying22 h with ⟨hc, _⟩ | ⟨a, len, cap, elems, rest, m, hm, hc, _, _, hl1, hmax, hlen, hel, _, _⟩
  · simp only [List.cons.injEq, and_true] at hc
    exact ⟨[], .inl ⟨⟨_, _, hc⟩, rfl⟩⟩
  · simp only [List.cons.injEq, and_true] at hc
    rw [e2] at hel
    have each : ∀ i, i < len → ∃ c s, w.cell? ((a.add (i * 2)).add 0) = some (.string c) ∧ w.cell? ((a.add (i * 2)).add 1) = some (.string s) := by
      intro i hi
      have h := hel i hi
      rw [List.getElem?_eq_getElem (by omega), Option.bind_eq_some_iff] at h
      obtain ⟨cs', hcs, hy⟩ := h
      obtain ⟨_, hcl, hcell⟩ := World.cells?_some hcs
      obtain ⟨xs, n, rfl, _, _, hxs, hf⟩ := DataW.trod_struct Try.underlying46 hy
      obtain ⟨c0, c1, rfl⟩ : ∃ c0 c1, cs' = [c0, c1] := by
        rcases cs' with _ | ⟨c0, _ | ⟨c1, _ | ⟨c2, r⟩⟩⟩ <;> simp at hcl
        exact ⟨c0, c1, rfl⟩
      obtain ⟨y0, h0⟩ := fld (cs' := [c0]) hxs hf 0 rfl e1 0 rfl rfl rfl
      obtain ⟨y1, h1⟩ := fld (cs' := [c1]) hxs hf 1 rfl e1 1 rfl rfl rfl
      obtain ⟨c, g0, _, _⟩ := DataW.trod_string (cs := [c0]) Try.underlying9 h0
      obtain ⟨s, g1, _, _⟩ := DataW.trod_string (cs := [c1]) Try.underlying9 h1
      simp only [List.cons.injEq, and_true] at g0 g1
      subst g0 g1
      exact ⟨c, s, by rw [hcell 0 (by omega)]; rfl, by rw [hcell 1 (by omega)]; rfl⟩
    cases len with
    | zero => exact ⟨[], .inl ⟨⟨_, _, hc⟩, rfl⟩⟩
    | succ q =>
      obtain ⟨c0, s0, h00, _⟩ := each 0 (by omega)
      rw [show (a.add (0 * 2)).add 0 = a by simp [Addr.add]] at h00
      obtain ⟨b, o, rfl, hlt⟩ := plain_of h00
      have hl : ∀ n, n ≤ q + 1 → ∃ l : Ck, l.length = n ∧ ∀ i c s, l[i]? = some (c, s) → w.cell? ⟨b, o + i * 2, none⟩ = some (.string c) ∧ w.cell? ⟨b, o + i * 2 + 1, none⟩ = some (.string s) := by
        intro n
        induction n with
        | zero => intro _; exact ⟨[], rfl, fun i c s h => by simp at h⟩
        | succ n ih =>
          intro hn
          obtain ⟨l, h1, h2⟩ := ih (by omega)
          obtain ⟨c, s, h3, h4⟩ := each n (by omega)
          rw [add_plain, add_plain] at h3 h4
          refine ⟨l ++ [(c, s)], by simp [h1], fun i c' s' hi => ?_⟩
          by_cases hin : i < n
          · rw [List.getElem?_append_left (by omega)] at hi
            exact h2 i c' s' hi
          · have hlt2 := (List.getElem?_eq_some_iff.1 hi).1
            simp only [List.length_append, List.length_singleton, h1] at hlt2
            obtain rfl : i = n := by omega
            rw [List.getElem?_append_right (by omega), h1, Nat.sub_self] at hi
            simp only [List.getElem?_cons_zero, Option.some.injEq, Prod.mk.injEq] at hi
            obtain ⟨rfl, rfl⟩ := hi
            exact ⟨h3, h4⟩
      obtain ⟨l, h1, h2⟩ := hl (q + 1) (Nat.le_refl _)
      exact ⟨l, .inr ⟨b, o, cap, by rw [h1]; exact hc, by omega, hmax, hlt, h2⟩⟩
set_option maxRecDepth 100000 in
theorem open_clock {r : Reach} {b0 : Nat} {v : Value} {d : DataW H} {p : List MemPlace} (hv : Value.okWide Try.prog w r b0 22 v) (h : DataW.Trod enc Try.prog w 0 (fun _ => true) held 22 v d p) :
    ∃ cv l, v = cv ∧ CkIn (fun k => k < w.heap.size) w cv l := by
  obtain ⟨a, l, c, rfl⟩ := okWide_slice Try.underlying22 hv
  obtain ⟨fuel, hf⟩ := h
  obtain ⟨l', hn⟩ := clock_of hf
  exact ⟨_, l', rfl, hn⟩
end
end Tx
end Go.Proofs.Ytcklccpcajbjeaa
