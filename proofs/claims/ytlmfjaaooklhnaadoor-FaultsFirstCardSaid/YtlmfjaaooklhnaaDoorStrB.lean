/- What a strings.Builder does when a string is written: of a builder that was never copied. -/
import Derived.Test.YtlmfjaaooklhnaaDoorRows
import Derived.WalkKit
import Derived.ProofKit
import Derived.OwnWalk
import Derived.Lib.Hide
import Derived.Lib.Builder
import Derived.Lib.AppendStr
import Derived.Laws.Externs
namespace Go.Proofs.YtlmfjaaooklhnaaDoor
open Go.ChangeShapes Go.WideShapes Go.ChangeAt Go.RowKit
namespace Sb
set_option linter.unusedVariables false
set_option linter.unusedSimpArgs false

theorem szB : (Tryd.prog.info? 119).map (·.size) = some 2 := by kernel_rfl
theorem liB : liesAt Tryd.prog Tryd.prog.depth 119 (2 / Tryd.prog.cellsOf 119) 0 119 1 = true := by kernel_rfl
theorem byB : (Tryd.prog.info? 5).map (fun i => (i.zero, i.size, i.bytes)) = some (some (.int .u8 0), 1, 1) := by kernel_rfl

set_option maxRecDepth 100000 in
set_option maxHeartbeats 1000000 in
theorem check_any (B b : Nat) (bs : List Value) (w : World) (h : Lib.IsBuilder 119 5 B b bs w) :
    Calls Tryd.prog 75 #[.pointer (some ⟨b, 0, none⟩)] w fun e w' => e = .returned (.tuple #[]) ∧ Lib.BuilderAt 119 5 B b (.pointer (some ⟨b, 0, none⟩)) bs w' ∧ Below B w w' := by
  obtain ⟨j, hj, hjs⟩ := Option.map_eq_some_iff.1 szB
  rcases h with h | h
  · have c0 := h.cell0
    have hf := h.frozen0
    have hs := h.shape
    have HB := Lib.hid h
    have h1 := Lib.run_to_unsafe (P := Tryd.prog) w ⟨b, 0, none⟩ Tryd.underlying117 Tryd.underlying83 hj (by rw [hjs]; decide) hs (Nat.zero_lt_succ 1)
    have h2 := Lib.run_from_unsafe (P := Tryd.prog) w ⟨b, 0, none⟩ Tryd.underlying83 Tryd.underlying117 hj hs liB
    have hne := @run_callFunc_extern Tryd.prog 77 _ Extern.AbiNoEscape.same Tryd.func77 (by kernel_rfl) (by kernel_rfl) (by kernel_rfl) (by kernel_rfl)
    have hsame := fun x => Lib.run_noEscape (P := Tryd.prog) (w := w) x
    clear h
    go_enter Tryd.func75, Tryd.ntmps75
    go_wp2
    go_end0
    exact ⟨rfl, HB.out.used _, (Below.refl B w).setCell (p := ⟨b, 0, none⟩) HB.out.1 _⟩
  · have c0 := h.cell0
    have hn := fun w => Lib.run_neq_ptr_same (P := Tryd.prog) w ⟨b, 0, none⟩ Tryd.underlying117 hj
    have HB := Lib.hid h
    clear h
    go_enter Tryd.func75, Tryd.ntmps75
    go_wp2
    go_end0
    exact ⟨rfl, HB.out, Below.refl _ _⟩

theorem slice_of {w : World} {base : Nat} {e : TypeId} {size n : Nat} {v : Value} {xs : List Value} (h : w.ownsRow base e size v n xs) : ∃ ao n' cap, v = .slice ao n' cap := by
  rcases h.2 with ⟨hv, _⟩ | ⟨g, cap, cur, hv, _⟩
  · exact ⟨_, _, _, hv⟩
  · exact ⟨_, _, _, hv⟩
theorem byte_builder : (5 : TypeId) ≠ 119 := by decide

set_option maxRecDepth 100000 in
set_option maxHeartbeats 2000000 in
theorem write_any (B b : Nat) (bs : List Value) (s : ByteArray) (w : World) (h : Lib.IsBuilder 119 5 B b bs w) (hl : bs.length + s.size ≤ 1000000) (hB : B ≤ w.heap.size) :
    Calls Tryd.prog 71 #[.pointer (some ⟨b, 0, none⟩), .string s] w fun e w' => e = .returned (.tuple #[.int .i64 s.size, .nilIface]) ∧ Lib.IsBuilder 119 5 B b (bs ++ Lib.strCells s) w' ∧ Below B w w' := by
  obtain ⟨i0, hi, hz0, hz1, hz2⟩ := info_parts byB
  have HB := Lib.hid h
  clear h
  go_enter Tryd.func71, Tryd.ntmps71
  go_wp2_with (first
    | (go_at_call 75; refine (check_any B b bs _ HB.out).mono ?_; rintro e w1 ⟨rfl, ⟨hBb, v, hbk, hown, hne⟩, hb1⟩; have c1 : w1.cell? ⟨b, 1, none⟩ = some v := (by rw [Lib.cell_of_heap hbk]; rfl); have HK := Lib.hid (And.intro hbk (And.intro hown hne)); clear hbk hown hne; have hz := hb1.size)
    | (at_builtin; refine Lib.wpList_append_own_string _ rfl (.tmp 12) (.tmp 13) 23 9 rfl B 5 i0 Tryd.underlying23 Tryd.underlying9 hi hz0 hz1 hz2 _ _ _ rfl HK.out.2.1 s rfl ?c3 ?c4 ?c5 ?_; rotate_left 3; intro v' w2 hown' hgrow _; have HO := Lib.hid hown'; have hb2 := (hgrow.block b (Array.getElem?_eq_some_iff.1 HK.out.1).1 (fun e => HK.out.2.2 e.symm)).trans HK.out.1; have HG := Lib.hid (And.intro hgrow hb2); have d1 : w2.cell? ⟨b, 1, none⟩ = some v := (by rw [Lib.cell_of_heap hb2]; rfl); have f1 : w2.frozen? ⟨b, 1, none⟩ = false := Lib.frozen_of_heap hb2 1; clear hown' hgrow hb2; obtain ⟨ao, n', cap, rfl⟩ : ∃ ao n' cap, v' = .slice ao n' cap := slice_of HO.out))
  · go_ret2
    obtain ⟨hgr, hb2⟩ := HG.out
    have hown := HK.out.2.1
    refine ⟨rfl, .inr (Lib.BuilderAt.put (T := 119) (e := 5) hBb hb2 (bs' := bs ++ Lib.strCells s) (by simpa [Lib.strCells_length] using HO.out) byte_builder.symm), ?_⟩
    exact (hb1.grown hgr (by omega) (fun k hk => (hown.lt k hk).1)).setCell (p := ⟨b, 1, none⟩) hBb _
  · unfold maxLen; omega
  · omega
  · omega
theorem keep {B b : Nat} {bs : List Value} {w w' : World} (h : Lib.IsBuilder 119 5 B b bs w) (hk : ∀ k, k < w.heap.size → w'.heap[k]? = w.heap[k]?) : Lib.IsBuilder 119 5 B b bs w' := by
  have key : ∀ p, Lib.BuilderAt 119 5 B b p bs w → Lib.BuilderAt 119 5 B b p bs w' := by
    rintro p ⟨h1, v, h2, h3, h4⟩
    refine ⟨h1, v, (hk b (Array.getElem?_eq_some_iff.1 h2).1).trans h2, ⟨h3.1, ?_⟩, h4⟩
    rcases h3.2 with e | ⟨g, cap, cur, e1, e2, e3, e4⟩
    · exact .inl e
    · exact .inr ⟨g, cap, cur, e1, e2, (hk g (Array.getElem?_eq_some_iff.1 e3).1).trans e3, e4⟩
  exact h.imp (key _) (key _)
end Sb
end Go.Proofs.YtlmfjaaooklhnaaDoor
