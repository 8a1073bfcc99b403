/- Arguments that are lists of names, and lists of these. -/
import Derived.Test.YtggoejghnlgigaaTop
namespace Go.Proofs.Ytggoejghnlgigaa
open Go.ChangeShapes Go.WideShapes Go.ChangeAt Go.RowKit Go.Joins
namespace Tx
set_option linter.unusedVariables false
set_option linter.unusedSimpArgs false
/-- Lists of names side by side. -/
def ListsIn (B : Nat → Prop) (w : World) (v : Value) (ls : List (Value × List ByteArray)) : Prop :=
  ((∃ a c, v = .slice a 0 c) ∧ ls = []) ∨ ∃ b o cap, v = .slice (some ⟨b, o, none⟩) ls.length cap ∧ ls.length ≤ cap ∧ cap ≤ maxLen ∧ B b ∧ ∀ i p, ls[i]? = some p → w.cell? ⟨b, o + i, none⟩ = some p.1 ∧ NamesIn B w p.1 p.2
theorem ListsIn.keep {B : Nat → Prop} {w w' : World} (hb : ∀ b o v, B b → w.cell? ⟨b, o, none⟩ = some v → w'.cell? ⟨b, o, none⟩ = some v) {v : Value} {ls : List (Value × List ByteArray)} (h : ListsIn B w v ls) : ListsIn B w' v ls := by
  rcases h with h | ⟨b, o, cap, h1, h2, h3, h4, h5⟩
  · exact .inl h
  · exact .inr ⟨b, o, cap, h1, h2, h3, h4, fun i p hi => ⟨hb _ _ _ h4 (h5 i p hi).1, (h5 i p hi).2.keep hb⟩⟩
theorem ListsIn.form {B : Nat → Prop} {w : World} {v : Value} {ls : List (Value × List ByteArray)} (h : ListsIn B w v ls) : ∃ ao c, v = .slice ao ls.length c := by
  rcases h with ⟨h, rfl⟩ | ⟨b, o, cap, e, _⟩
  · exact h
  · exact ⟨_, _, e⟩
section
variable {H : Type} {enc : TypeId × Value → H} {w : World} {held : Bool}
set_option maxRecDepth 100000 in
theorem open_names {r : Reach} {b0 : Nat} {v : Value} {d : DataW H} {p : List MemPlace} (hv : Value.okWide Try.prog w r b0 25 v) (h : DataW.Trod enc Try.prog w 0 (fun _ => true) held 25 v d p) :
    ∃ nv ns, v = nv ∧ NamesIn (fun k => k < w.heap.size) w nv ns := by
  obtain ⟨a, l, c, rfl⟩ := okWide_slice Try.underlying25 hv
  obtain ⟨fuel, hf⟩ := h
  obtain ⟨ns, hn⟩ := names_of hf
  exact ⟨_, ns, rfl, hn⟩
theorem lists_of {fuel : Nat} {v : Value} {x : DataW H × List MemPlace} (h : DataW.trod enc Try.prog w 0 (fun _ => true) held fuel 38 [v] = some x) : ∃ ls, ListsIn (fun k => k < w.heap.size) w v ls := by
  have e1 : Try.prog.cellsOf 25 = 1 := by kernel_rfl
  rcases DataW.trod_slice (cs := [v]) Try.underlying38 h with ⟨hc, _⟩ | ⟨a, len, cap, elems, rest, m, hm, hc, _, _, hl1, hmax, hlen, hel, _, _⟩
  · simp only [List.cons.injEq, and_true] at hc
    exact ⟨[], .inl ⟨⟨_, _, hc⟩, rfl⟩⟩
  · simp only [List.cons.injEq, and_true] at hc
    rw [e1] at hel
    have each : ∀ i, i < len → ∃ p : Value × List ByteArray, w.cell? (a.add i) = some p.1 ∧ NamesIn (fun k => k < w.heap.size) w p.1 p.2 := by
      intro i hi
      have h := hel i hi
      rw [List.getElem?_eq_getElem (by omega), Option.bind_eq_some_iff] at h
      obtain ⟨cs', hcs, hy⟩ := h
      obtain ⟨_, hcl, hcell⟩ := World.cells?_some hcs
      obtain ⟨c0, rfl⟩ : ∃ c0, cs' = [c0] := by
        rcases cs' with _ | ⟨c0, _ | ⟨c1, r⟩⟩ <;> simp at hcl
        exact ⟨c0, rfl⟩
      obtain ⟨ns, hn⟩ := names_of hy
      refine ⟨(c0, ns), ?_, hn⟩
      have h0 := hcell 0 (by omega)
      rw [Nat.mul_one] at h0
      rw [show (a.add i).add 0 = a.add i by simp [Addr.add]] at h0
      rw [h0]; rfl
    cases len with
    | zero => exact ⟨[], .inl ⟨⟨_, _, hc⟩, rfl⟩⟩
    | succ q =>
      obtain ⟨p0, h00, _⟩ := each 0 (by omega)
      rw [show a.add 0 = a by simp [Addr.add]] at h00
      obtain ⟨b, o, rfl, hlt⟩ := plain_of h00
      have hl : ∀ n, n ≤ q + 1 → ∃ l : List (Value × List ByteArray), l.length = n ∧ ∀ i p, l[i]? = some p → w.cell? ⟨b, o + i, none⟩ = some p.1 ∧ NamesIn (fun k => k < w.heap.size) w p.1 p.2 := by
        intro n
        induction n with
        | zero => intro _; exact ⟨[], rfl, fun i p h => by simp at h⟩
        | succ n ih =>
          intro hn
          obtain ⟨l, h1, h2⟩ := ih (by omega)
          obtain ⟨p, h3, h4⟩ := each n (by omega)
          rw [add_plain] at h3
          refine ⟨l ++ [p], by simp [h1], fun i p' hi => ?_⟩
          by_cases hin : i < n
          · rw [List.getElem?_append_left (by omega)] at hi
            exact h2 i p' hi
          · have hlt2 := (List.getElem?_eq_some_iff.1 hi).1
            simp only [List.length_append, List.length_singleton, h1] at hlt2
            obtain rfl : i = n := by omega
            rw [List.getElem?_append_right (by omega), h1, Nat.sub_self] at hi
            obtain rfl := Option.some.inj hi
            exact ⟨h3, h4⟩
      obtain ⟨l, h1, h2⟩ := hl (q + 1) (Nat.le_refl _)
      exact ⟨l, .inr ⟨b, o, cap, by rw [h1]; exact hc, by omega, hmax, hlt, h2⟩⟩
set_option maxRecDepth 100000 in
theorem open_lists {r : Reach} {b0 : Nat} {v : Value} {d : DataW H} {p : List MemPlace} (hv : Value.okWide Try.prog w r b0 38 v) (h : DataW.Trod enc Try.prog w 0 (fun _ => true) held 38 v d p) :
    ∃ lv ls, v = lv ∧ ListsIn (fun k => k < w.heap.size) w lv ls := by
  obtain ⟨a, l, c, rfl⟩ := okWide_slice Try.underlying38 hv
  obtain ⟨fuel, hf⟩ := h
  obtain ⟨ls, hn⟩ := lists_of hf
  exact ⟨_, ls, rfl, hn⟩
end
end Tx
end Go.Proofs.Ytggoejghnlgigaa
