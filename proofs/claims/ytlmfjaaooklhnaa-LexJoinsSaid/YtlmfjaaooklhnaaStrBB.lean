/- What a strings.Builder does when a byte is written; what its text is. -/
import Derived.Test.YtlmfjaaooklhnaaStrB
import Derived.Test.YtlmfjaaooklhnaaShelf
import Derived.Lib.OthersKept
import Derived.Lib.BufferKept
namespace Go.Proofs.Ytlmfjaaooklhnaa
open Go.ChangeShapes Go.WideShapes Go.ChangeAt Go.RowKit
namespace Sb
set_option linter.unusedVariables false
set_option linter.unusedSimpArgs false
set_option maxRecDepth 100000 in
set_option maxHeartbeats 1000000 in
theorem check_k (B b : Nat) (bs : List Value) (w : World) (h : Lib.IsBuilder 47 5 B b bs w) :
    Calls Try.prog 25 #[.pointer (some ⟨b, 0, none⟩)] w fun e w' => e = .returned (.tuple #[]) ∧ Lib.BuilderAt 47 5 B b (.pointer (some ⟨b, 0, none⟩)) bs w' ∧ Below B w w' ∧ Lib.OthersKept 5 (some b) w w' := by
  obtain ⟨j, hj, hjs⟩ := Option.map_eq_some_iff.1 szB
  rcases h with h | h
  · have c0 := h.cell0
    have hf := h.frozen0
    have hs := h.shape
    have HB := Lib.hid h
    have h1 := Lib.run_to_unsafe (P := Try.prog) w ⟨b, 0, none⟩ Try.underlying45 Try.underlying64 hj (by rw [hjs]; decide) hs (Nat.zero_lt_succ 1)
    have h2 := Lib.run_from_unsafe (P := Try.prog) w ⟨b, 0, none⟩ Try.underlying64 Try.underlying45 hj hs liB
    have hne := @run_callFunc_extern Try.prog 33 _ Extern.AbiNoEscape.same Try.func33 (by kernel_rfl) (by kernel_rfl) (by kernel_rfl) (by kernel_rfl)
    have hsame := fun x => Lib.run_noEscape (P := Try.prog) (w := w) x
    clear h
    go_enter Try.func25, Try.ntmps25
    go_wp2
    go_end0
    exact ⟨rfl, HB.out.used _, (Below.refl B w).setCell (p := ⟨b, 0, none⟩) HB.out.1 _, (Lib.OthersKept.refl _ _ _).setCell ⟨b, 0, none⟩ rfl _⟩
  · have c0 := h.cell0
    have hn := fun w => Lib.run_neq_ptr_same (P := Try.prog) w ⟨b, 0, none⟩ Try.underlying45 hj
    have HB := Lib.hid h
    clear h
    go_enter Try.func25, Try.ntmps25
    go_wp2
    go_end0
    exact ⟨rfl, HB.out, Below.refl _ _, Lib.OthersKept.refl _ _ _⟩

theorem own_row {w : World} {base : Nat} {e : TypeId} {size n : Nat} {v : Value} {xs : List Value} (h : w.ownsRow base e size v n xs) : ∀ k, v.ownBlock = some k → ∃ cur fz, w.heap[k]? = some (.cells cur e fz) := by
  intro k hk
  rcases h.2 with ⟨hv, _⟩ | ⟨g, cap, cur, hv, _, hg, _⟩
  · subst hv; simp [Value.ownBlock] at hk
  · subst hv
    simp [Value.ownBlock] at hk
    subst hk
    exact ⟨cur, _, hg⟩
set_option maxRecDepth 100000 in
set_option maxHeartbeats 2000000 in
theorem writeByte_any (B b : Nat) (bs : List Value) (c : Int) (w : World) (h : Lib.IsBuilder 47 5 B b bs w) (hl : bs.length + 1 ≤ 1000000) (hB : B ≤ w.heap.size) :
    Calls Try.prog 15 #[.pointer (some ⟨b, 0, none⟩), .int .u8 c] w fun e w' => e = .returned .nilIface ∧ Lib.IsBuilder 47 5 B b (bs ++ [.int .u8 c]) w' ∧ Below B w w' ∧ Lib.OthersKept 5 (some b) w w' := by
  obtain ⟨i0, hi, hz0, hz1, hz2⟩ := info_parts byB
  have HB := Lib.hid h
  clear h
  go_enter Try.func15, Try.ntmps15
  go_wp2_with (first
    | (go_at_call 25; refine (check_k B b bs _ HB.out).mono ?_; rintro e w1 ⟨rfl, ⟨hBb, v, hbk, hown, hne⟩, hb1, ho1⟩; have HO1 := Lib.hid ho1; clear ho1; have c1 : w1.cell? ⟨b, 1, none⟩ = some v := (by rw [Lib.cell_of_heap hbk]; rfl); have HK := Lib.hid (And.intro hbk (And.intro hown hne)); clear hbk hown hne; have hz := hb1.size)
    | (at_builtin; refine wpList_append_own _ rfl (.tmp 11) (.tmp 13) 22 rfl B 5 i0 _ 1 1 Try.underlying22 hi hz0 hz1 hz2 rfl (by decide) v _ _ rfl (HK.out.2.1.alloc _) ⟨w1.heap.size, 0, none⟩ 1 1 [.int .u8 c] rfl rfl ?c1 ?c2 ?c3 ?c4 ?c5 ?_; rotate_left 5; intro v' w2 hown' hgrow _; have HO := Lib.hid hown'; have hbA : (w1.alloc (.cells #[.int .u8 c] 5)).heap[b]? = some (.cells #[.pointer (some ⟨b, 0, none⟩), v] 47 (0, 0)) := (Lib.alloc_old w1 _ b (Array.getElem?_eq_some_iff.1 HK.out.1).1).trans HK.out.1; have hb2 := (hgrow.block b (Array.getElem?_eq_some_iff.1 hbA).1 (fun e => HK.out.2.2 e.symm)).trans hbA; have HG := Lib.hid (And.intro hgrow hb2); have d1 : w2.cell? ⟨b, 1, none⟩ = some v := (by rw [Lib.cell_of_heap hb2]; rfl); have f1 : w2.frozen? ⟨b, 1, none⟩ = false := Lib.frozen_of_heap hb2 1; clear hown' hgrow hb2 hbA; obtain ⟨ao, n', cap, rfl⟩ : ∃ ao n' cap, v' = .slice ao n' cap := slice_of HO.out))
  · go_ret
    obtain ⟨hgr, hb2⟩ := HG.out
    have hown := HK.out.2.1
    refine ⟨rfl, .inr (Lib.BuilderAt.put (T := 47) (e := 5) hBb hb2 (bs' := bs ++ [.int .u8 c]) (by simpa using HO.out) byte_builder.symm), ?_, ?_⟩
    · exact (((hb1.alloc (by omega) _).grown hgr (by simp; omega) (fun k hk => (hown.lt k hk).1)).setCell (p := ⟨b, 1, none⟩) hBb _)
    · exact ((HO1.out.alloc _).grown hgr (own_row (hown.alloc _))).setCell ⟨b, 1, none⟩ rfl _
  · intro j u hj
    rcases j with _ | j <;> simp at hj
    subst hj
    simp [Addr.add, go_sem]
  · intro u hu
    simp at hu
    subst hu
    rfl
  · unfold maxLen; omega
  · omega
  · simp; omega
end Sb
end Go.Proofs.Ytlmfjaaooklhnaa
