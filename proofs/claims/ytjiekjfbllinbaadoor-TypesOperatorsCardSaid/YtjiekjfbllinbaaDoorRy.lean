/- The two variables of package types, as the card lays them. -/
import Derived.Test.YtjiekjfbllinbaaDoorRv
import Derived.Test.YtjiekjfbllinbaaDoorRows
import Derived.ChangeArms
import Derived.Lib.LaidTab
namespace Go.Proofs.YtjiekjfbllinbaaDoor.Rx
open Go
set_option linter.unusedSectionVars false
set_option linter.unusedVariables false
set_option linter.unusedSimpArgs false
theorem fld2 {W : World} {fs : Array Field} {n : Nat} {cs : List Value} {xs : List (DataW Unit × List MemPlace)}
    (hf : ∀ (i : Nat) (f : Field), fs[i]? = some f → DataW.trod (fun _ => ()) Tryd.prog W 0 (fun _ => true) false n f.type ((cs.drop f.offset).take (Tryd.prog.cellsOf f.type)) = xs[i]?) (i : Nat) {f : Field} (hi : fs[i]? = some f)
    {t : TypeId} {c : Nat} (hc : Tryd.prog.cellsOf t = c) (o : Nat) (ht : f.type = t) (ho : f.offset = o) {cs' : List Value} (hcs : (cs.drop o).take c = cs') :
    DataW.trod (fun _ => ()) Tryd.prog W 0 (fun _ => true) false n t cs' = xs[i]? := by
  have h := hf i f hi
  rw [ht, ho, hc, hcs] at h
  exact h
theorem type_cells {cs : List Value} {p : List MemPlace} {W : World} {fuel : Nat} {k : Int} {z : List UInt8}
    (h : DataW.trod (fun _ => ()) Tryd.prog W 0 (fun _ => true) false fuel 35 cs = some ((.agg [.lit (.int .u8 k), .lit (.string z)] : DataW Unit), p)) : cs = [.int .u8 k, .string ⟨z.toArray⟩] := by
  obtain ⟨xs, n, rfl, hx, hl, hxs, hf⟩ := DataW.trod_struct Tryd.underlying35 h
  rw [show Tryd.prog.cellsOf 35 = 2 by kernel_rfl] at hl
  obtain ⟨c0, c1, rfl⟩ : ∃ c0 c1, cs = [c0, c1] := by
    rcases cs with _ | ⟨c0, _ | ⟨c1, _ | ⟨c2, r⟩⟩⟩ <;> simp at hl
    exact ⟨c0, c1, rfl⟩
  obtain ⟨x0, x1, rfl⟩ : ∃ x0 x1, xs = [x0, x1] := by
    have : xs.length = 2 := hxs
    rcases xs with _ | ⟨x0, _ | ⟨x1, _ | ⟨x2, r⟩⟩⟩ <;> simp at this
    exact ⟨x0, x1, rfl⟩
  have e5 : Tryd.prog.cellsOf 5 = 1 := by kernel_rfl
  have e9 : Tryd.prog.cellsOf 9 = 1 := by kernel_rfl
  have h0 : _ = some x0 := fld2 (cs' := [c0]) hf 0 rfl e5 0 rfl rfl rfl
  have h1 : _ = some x1 := fld2 (cs' := [c1]) hf 1 rfl e9 1 rfl rfl rfl
  obtain ⟨n0, g0, g1, _⟩ := DataW.trod_int Tryd.underlying5 h0
  obtain ⟨s1, g2, g3, _⟩ := DataW.trod_string Tryd.underlying9 h1
  simp only [List.cons.injEq, and_true] at g0 g2
  simp only [Prod.mk.injEq, DataW.agg.injEq, List.map_cons, List.map_nil, List.cons.injEq, and_true] at hx
  rw [g1, g3] at hx
  simp only [DataW.lit.injEq, Lit.int.injEq, Lit.string.injEq] at hx
  obtain ⟨⟨⟨_, h4⟩, h5⟩, _⟩ := hx
  rw [g0, g2, h4, h5]

theorem cells_of {W : World} {n : String} {g : Nat} {k : Int} {l : List (String × DataW Unit)} {ps : List MemPlace} (hg : Tryd.prog.globalNamed n = some g) (hty : (Tryd.prog.globals[g]?).map (·.type) = some 35)
    (h : DataW.LaidVars Tryd.prog W ((n, .agg [.lit (.int .u8 k), .lit (.string [])]) :: l) ps) : (W.cell? ⟨g, 0, none⟩ = some (.int .u8 k) ∧ W.cell? ⟨g, 1, none⟩ = some (.string ⟨#[]⟩)) ∧ ∃ qs, DataW.LaidVars Tryd.prog W l qs := by
  obtain ⟨g', t', cs, fuel, p, q, hg', ht', hvar, hd, hr, _⟩ := h
  obtain rfl := Option.some.inj (hg.symm.trans hg')
  obtain rfl := Option.some.inj (hty.symm.trans ht')
  have hc := type_cells hd
  have c0 := World.var?_cell hg hvar 0
  have c1 := World.var?_cell hg hvar 1
  have e : cs = #[.int .u8 k, .string ⟨([] : List UInt8).toArray⟩] := Array.ext' hc
  subst e
  exact ⟨⟨by simpa using c0, by simpa using c1⟩, q, hr⟩

theorem glIn_of {W : World} (h : laidMetH Tryd.prog Rows.typesOperatorsRow.laid W) : GlIn W := by
  have h' : laidMet Tryd.prog [("metronome/types.boolean", Rows.laid_metronome_types_boolean), ("metronome/types.number", Rows.laid_metronome_types_number)] W := h.1
  obtain ⟨ps, hv, _⟩ := h'
  obtain ⟨⟨h1, h2⟩, qs, hv⟩ := cells_of (g := 1) (by kernel_rfl) (by kernel_rfl) hv
  obtain ⟨⟨h3, h4⟩, _⟩ := cells_of (g := 0) (by kernel_rfl) (by kernel_rfl) hv
  exact ⟨h3, h4, h1, h2⟩
end Go.Proofs.YtjiekjfbllinbaaDoor.Rx
