/- Names that are gathered, each once. -/
import Derived.Test.YtggoejghnlgigaaTv
import Derived.Maps.OwnSet
import Derived.Maps.Views
import Derived.Maps.OwnOps
import Derived.Maps.AppendAt
import Derived.Deep.AppendLies
namespace Go.Proofs.Ytggoejghnlgigaa
open Go.ChangeShapes Go.WideShapes Go.ChangeAt Go.RowKit Go.Maps
namespace Tx
set_option linter.unusedVariables false
set_option linter.unusedSimpArgs false
theorem lawStr : Keyed Try.prog 9 := string_keyed Try.underlying9
theorem zeroUnit (w : World) : (zeroValue 101).run Try.prog w = .ok (.agg #[]) w := by kernel_rfl
theorem infoString : (Try.prog.info? 9).map (fun i => (i.zero, i.size, i.bytes)) = some (some (Value.string ⟨#[]⟩), 1, 16) := by kernel_rfl
def kl (s : ByteArray) : Lit := .string s.data.toList
/-- The set of some names. -/
def Sd (ns : List ByteArray) : DataW Unit := setOf (.agg []) (ns.map kl)
theorem kl_key (s : ByteArray) (hs : s.size ≤ maxLen) : keyOf Try.prog 9 (.string s) = some (kl s) := Go.WideMaps.keyOf_string_mk Try.underlying9 hs
/-- Some names, in memory: the list, and the set, as Go keeps them. -/
structure NamesAt (nb : Nat) (ns : List ByteArray) (lv mv : Value) (w : World) : Prop where
  c0 : w.cell? ⟨nb, 0, none⟩ = some lv
  c1 : w.cell? ⟨nb, 1, none⟩ = some mv
  f0 : w.frozen? ⟨nb, 0, none⟩ = false
  f1 : w.frozen? ⟨nb, 1, none⟩ = false
  own : w.ownsRow (nb + 1) 9 1 lv ns.length (ns.map Value.string)
  map : (mv = .map none ∧ ns = []) ∨ ∃ mb, mv = .map (some mb) ∧ nb < mb ∧ lv.ownBlock ≠ some mb ∧ w.ownsMap Try.prog 9 unitElem mb ns.length (Sd ns)
theorem slice_of' {w : World} {base : Nat} {e : TypeId} {size n : Nat} {v : Value} {xs : List Value} (h : w.ownsRow base e size v n xs) : ∃ ao cap, v = .slice ao n cap := by
  rcases h.2 with ⟨hv, h0⟩ | ⟨g, cap, cur, hv, _⟩
  · exact ⟨_, _, by rw [hv, h0]⟩
  · exact ⟨_, _, hv⟩
/-- The blocks in which some names lie. -/
def Foot (nb : Nat) (lv mv : Value) (k : Nat) : Prop := k = nb ∨ lv.ownBlock = some k ∨ mv = .map (some k)
/-- Behind the call: the names are these; what is no block of theirs stays. -/
def Added (nb : Nat) (ns : List ByteArray) (lv mv : Value) (w : World) (e : Ending) (w' : World) : Prop :=
  ∃ lv' mv', e = .returned (.tuple #[]) ∧ NamesAt nb ns lv' mv' w' ∧ Keeps (Foot nb lv mv) w w' ∧ ∀ k, Foot nb lv' mv' k → Foot nb lv mv k ∨ w.heap.size ≤ k
theorem sd_snoc (ns : List ByteArray) (s : ByteArray) : Sd (ns ++ [s]) = (Sd ns).put (kl s) (.agg []) := by unfold Sd; rw [List.map_append, List.map_singleton, setOf_snoc]
theorem own_other {w w' : World} {S : Nat → Prop} {base : Nat} {e : TypeId} {size n : Nat} {v : Value} {xs : List Value} (h : w.ownsRow base e size v n xs) (hk : Keeps S w w') (hS : ∀ k, v.ownBlock = some k → ¬ S k) : w'.ownsRow base e size v n xs := by
  refine ⟨h.1, ?_⟩
  rcases h.2 with hv | ⟨g, cap, cur, hv, h1, h2, h3⟩
  · exact .inl hv
  · exact .inr ⟨g, cap, cur, hv, h1, (hk.block g (Array.getElem?_eq_some_iff.1 h2).1 (hS g (by rw [hv]; rfl))).trans h2, h3⟩
/-- What the last store leaves. -/
theorem added_new {nb mb g cap : Nat} {ns : List ByteArray} {lv : Value} {s : ByteArray} {w w1 w2 : World} {o1 o2 : Obj} (h : NamesAt nb ns lv (.map (some mb)) w) (hmb : nb < mb) (hne : lv.ownBlock ≠ some mb) (hwm : mb < w.heap.size)
    (hg1 : (w.alloc o1).grownBy w1 (some mb)) (hown1 : w1.ownsMap Try.prog 9 (unitElem (H := Unit)) mb (ns.length + 1) ((Sd ns).put (kl s) (.agg [])))
    (hown2 : w2.ownsRow (nb + 1) 9 1 (.slice (some ⟨g, 0, none⟩) (ns.length + 1) cap) (ns.length + 1) (ns.map Value.string ++ [.string s])) (hgrow2 : (w1.alloc o2).grownBy w2 lv.ownBlock) (hat2 : lv.ownBlock = some g ∨ g = (w1.alloc o2).heap.size) :
    Added nb (ns ++ [s]) lv (.map (some mb)) w (.returned (.tuple #[])) (w2.setCell ⟨nb, 0, none⟩ (.slice (some ⟨g, 0, none⟩) (ns.length + 1) cap)) := by
  have hlt := h.own.lt
  have hnb : nb < w.heap.size := World.block_lt_of_cell? w _ h.c0
  have z1 : w.heap.size + 1 ≤ w1.heap.size := by have := hg1.size; simpa using this
  have z2 : w1.heap.size + 1 ≤ w2.heap.size := by have := hgrow2.size; simpa using this
  have hnl : lv.ownBlock ≠ some nb := fun e => by have := (hlt nb e).1; omega
  have k2 : Keeps (fun k => k = mb ∨ lv.ownBlock = some k) w w2 :=
    ((((Keeps.refl _ w).alloc o1).trans ((Keeps.grown hg1).mono fun k _ e => .inl (Option.some.inj e).symm)).alloc o2).trans ((Keeps.grown hgrow2).mono fun k _ e => .inr e)
  have hn2 : ¬ (nb = mb ∨ lv.ownBlock = some nb) := fun e => by rcases e with e | e; omega; exact hnl e
  have k3 : Keeps (Foot nb lv (.map (some mb))) w (w2.setCell ⟨nb, 0, none⟩ (.slice (some ⟨g, 0, none⟩) (ns.length + 1) cap)) :=
    (k2.mono fun k _ e => by rcases e with rfl | e; exact .inr (.inr rfl); exact .inr (.inl e)).setCell (p := ⟨nb, 0, none⟩) (.inl rfl) _
  have hgn : nb < g := (hown2.lt g rfl).1
  have hgm : g ≠ mb := by
    rcases hat2 with e | e
    · rintro rfl; exact hne e
    · simp at e; omega
  have ks : Keeps (fun k => k = nb) w2 (w2.setCell ⟨nb, 0, none⟩ (.slice (some ⟨g, 0, none⟩) (ns.length + 1) cap)) := (Keeps.refl (fun k => k = nb) w2).setCell (p := ⟨nb, 0, none⟩) rfl _
  have d0 := k2.cell h.c0 hn2
  have d1 := k2.cell h.c1 hn2
  have e0 := (World.frozen?_of_block (a := ⟨nb, 0, none⟩) (k2.block nb hnb hn2)).trans h.f0
  have e1 := (World.frozen?_of_block (a := ⟨nb, 1, none⟩) (k2.block nb hnb hn2)).trans h.f1
  refine ⟨.slice (some ⟨g, 0, none⟩) (ns.length + 1) cap, .map (some mb), rfl, ⟨?_, ?_, ?_, ?_, ?_, .inr ⟨mb, rfl, hmb, by simpa [Value.ownBlock] using hgm, ?_⟩⟩, k3, ?_⟩
  · simp [go_sem, d0]
  · simp [go_sem, d1]
  · simp [go_sem, e0]
  · simp [go_sem, e1]
  · have := own_other hown2 ks (fun k e => by simp only [Value.ownBlock, Option.some.injEq] at e; omega)
    simpa using this
  · rw [sd_snoc]
    have m1 := ((hown1.kept (World.grownBy_alloc w1 o2 none) (by simp)).kept hgrow2 (fun e => hne e.symm)).setCell (a := ⟨nb, 0, none⟩) (by show mb ≠ nb; omega) (.slice (some ⟨g, 0, none⟩) (ns.length + 1) cap)
    simpa using m1
  · rintro k (rfl | hk | hk)
    · exact .inl (.inl rfl)
    · simp only [Value.ownBlock, Option.some.injEq] at hk
      subst hk
      rcases hat2 with e | e
      · exact .inl (.inr (.inl e))
      · right; simp at e; omega
    · exact .inl (.inr (.inr hk))
set_option maxRecDepth 100000 in
set_option maxHeartbeats 1000000 in
theorem add_has (nb : Nat) (ns : List ByteArray) (lv mv : Value) (s : ByteArray) (hs : s.size ≤ maxLen) (w : World) (h : NamesAt nb ns lv mv w) (hh : Maps.has (Sd ns) (kl s) = true) :
    Calls Try.prog 54 #[.pointer (some ⟨nb, 0, none⟩), .string s] w fun e w' => e = .returned (.tuple #[]) ∧ Below w.heap.size w w' := by
  have hkey := kl_key s hs
  have c1 := h.c1
  rcases h.map with ⟨_, rfl⟩ | ⟨mb, rfl, hmb, hne, hown⟩
  · exact absurd hh (by simp [Sd, setOf, Maps.has])
  · have HO := Lib.hid hown
    clear h hown hs
    go_enter Try.func54, Try.ntmps54
    go_wp2_with (at_lookup; refine wpList_lookup_own_unit _ rfl _ _ 88 rfl 9 101 lawStr Try.underlying88 (zeroUnit _) mb _ _ rfl HO.out _ _ rfl hkey ?_)
    exact bodyPost_ret (v := .tuple #[]) (by simp [results, Try.results54, go_sem]) rfl ⟨rfl, (Below.refl _ _).alloc (Nat.le_refl _) _⟩
set_option maxRecDepth 100000 in
set_option maxHeartbeats 2000000 in
theorem add_new (nb : Nat) (ns : List ByteArray) (lv : Value) (mb : Nat) (s : ByteArray) (hs : s.size ≤ maxLen) (hlen : ns.length ≤ 3000000) (w : World) (h : NamesAt nb ns lv (.map (some mb)) w) (hh : Maps.has (Sd ns) (kl s) = false) :
    Calls Try.prog 54 #[.pointer (some ⟨nb, 0, none⟩), .string s] w (Added nb (ns ++ [s]) lv (.map (some mb)) w) := by
  have hkey := kl_key s hs
  obtain ⟨i0, hi, hz0, hz1, hz2⟩ := info_parts infoString
  have c0 := h.c0
  have c1 := h.c1
  have f0 := h.f0
  have f1 := h.f1
  have hlt := h.own.lt
  have hnb : nb < w.heap.size := World.block_lt_of_cell? w _ c0
  rcases h.map with ⟨e, _⟩ | ⟨mb', e, hmb, hne, hown⟩
  · cases e
  · cases e
    have hwm := hown.lt
    have HO := Lib.hid hown
    have HR := Lib.hid h.own
    have HH := Lib.hid h
    have hml : ns.length < maxLen := by unfold maxLen; omega
    have hmf := fun w => run_eql_map_nil (P := Try.prog) w 88 9 101 (some mb) Try.underlying88
    clear h hown hs
    go_enter Try.func54, Try.ntmps54
    go_wp2_with (first
      | (at_lookup; refine wpList_lookup_own_unit _ rfl _ _ 88 rfl 9 101 lawStr Try.underlying88 (zeroUnit _) mb _ _ rfl HO.out _ _ rfl hkey ?_)
      | (at_mapUpdate; refine wpList_mapUpdate_in _ rfl _ _ _ 88 rfl 9 101 lawStr Try.underlying88 (unitElem (H := Unit)) mb _ _ rfl (HO.out.alloc _) hml _ _ _ rfl rfl hkey _ [] unitElem_mk ?_; intro w1 hown1 hturn1; have hg1 := hturn1.grown; have hn1 : some nb ≠ some mb := (by simp; omega); have d0 : w1.cell? ⟨nb, 0, none⟩ = some lv := hg1.cell (a := ⟨nb, 0, none⟩) ((((Below.refl w.heap.size w).alloc (Nat.le_refl _) _).cell (p := ⟨nb, 0, none⟩) hnb).trans c0) hn1; have hz1b := hg1.size; have e0 : w1.frozen? ⟨nb, 0, none⟩ = false := (World.frozen?_of_block (hg1.block nb (by simp; omega) hn1)).trans ((((Below.refl w.heap.size w).alloc (Nat.le_refl _) _).frozen (p := ⟨nb, 0, none⟩) hnb).trans f0); have HR1 := Lib.hid ((HR.out.alloc _).kept hg1 (Or.inr hne)); have HG1 := Lib.hid (And.intro hg1 hown1); clear hown1 hturn1 hg1; simp at hz1b)
      | (at_builtin; refine wpList_append_lies _ rfl (.tmp 35) (.tmp 37) 25 rfl (nb + 1) 9 i0 _ 1 16 Try.underlying25 hi hz0 hz1 hz2 rfl (by decide) lv _ _ rfl (HR1.out.alloc _) ⟨w1.heap.size, 0, none⟩ 1 1 [.string s] rfl rfl ?_ ?_ (by omega) ?_ ?_ ?_ _ rfl ?_; rotate_left 5; intro g cap w2 hown2 hgrow2 hat2 hlt2; have hnl : some nb ≠ lv.ownBlock := (fun e => by have := (hlt nb e.symm).1; omega); have e2 : w2.frozen? ⟨nb, 0, none⟩ = false := (World.frozen?_of_block (hgrow2.block nb (by simp; omega) hnl)).trans ((((Below.refl w1.heap.size w1).alloc (Nat.le_refl _) _).frozen (p := ⟨nb, 0, none⟩) (by show nb < w1.heap.size; omega)).trans e0); have d2 : w2.cell? ⟨nb, 0, none⟩ = some lv := hgrow2.cell (a := ⟨nb, 0, none⟩) ((((Below.refl w1.heap.size w1).alloc (Nat.le_refl _) _).cell (p := ⟨nb, 0, none⟩) (by show nb < w1.heap.size; omega)).trans d0) hnl))
    · go_end0
      exact added_new HH.out hmb hne hwm HG1.out.1 HG1.out.2 hown2 hgrow2 hat2
    · intro j u hj
      rcases j with _ | j <;> simp at hj
      subst hj
      simp [Addr.add, go_sem]
    · intro u hu
      simp at hu
      subst hu
      rfl
    · unfold maxLen; omega
    · omega
    · simp; omega
end Tx
end Go.Proofs.Ytggoejghnlgigaa
