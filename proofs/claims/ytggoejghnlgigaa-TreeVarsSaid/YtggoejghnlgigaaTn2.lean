/- The first name of some. -/
import Derived.Test.YtggoejghnlgigaaTn
import Derived.Carry
import Derived.Lib.SmallJoins
namespace Go.Proofs.Ytggoejghnlgigaa
open Go.ChangeShapes Go.WideShapes Go.ChangeAt Go.RowKit Go.Maps
namespace Tx
set_option linter.unusedVariables false
set_option linter.unusedSimpArgs false
theorem Keeps.trans2 {S T : Nat → Prop} {a b c : World} (h : Keeps S a b) (k : Keeps T b c) (hT : ∀ j, j < a.heap.size → T j → S j) : Keeps S a c :=
  ⟨k.os.trans h.os, k.tape.trans h.tape, k.output.trans h.output, Nat.le_trans h.size k.size, fun j hj hs => (k.block j (Nat.lt_of_lt_of_le hj h.size) (fun t => hs (hT j hj t))).trans (h.block j hj hs)⟩
theorem added_from {nb mb g cap : Nat} {ns : List ByteArray} {lv : Value} {s : ByteArray} {w w1 w2 : World} {o2 : Obj} (h : NamesAt nb ns lv (.map (some mb)) w) (hmb : nb < mb) (hne : lv.ownBlock ≠ some mb) (hwm : mb < w.heap.size)
    (hg1 : w.grownBy w1 (some mb)) (hown1 : w1.ownsMap Try.prog 9 (unitElem (H := Unit)) mb (ns.length + 1) ((Sd ns).put (kl s) (.agg [])))
    (hown2 : w2.ownsRow (nb + 1) 9 1 (.slice (some ⟨g, 0, none⟩) (ns.length + 1) cap) (ns.length + 1) (ns.map Value.string ++ [.string s])) (hgrow2 : (w1.alloc o2).grownBy w2 lv.ownBlock) (hat2 : lv.ownBlock = some g ∨ g = (w1.alloc o2).heap.size) :
    Added nb (ns ++ [s]) lv (.map (some mb)) w (.returned (.tuple #[])) (w2.setCell ⟨nb, 0, none⟩ (.slice (some ⟨g, 0, none⟩) (ns.length + 1) cap)) := by
  have hlt := h.own.lt
  have hnb : nb < w.heap.size := World.block_lt_of_cell? w _ h.c0
  have z1 : w.heap.size ≤ w1.heap.size := hg1.size
  have z2 : w1.heap.size + 1 ≤ w2.heap.size := by have := hgrow2.size; simpa using this
  have hnl : lv.ownBlock ≠ some nb := fun e => by have := (hlt nb e).1; omega
  have k2 : Keeps (fun k => k = mb ∨ lv.ownBlock = some k) w w2 :=
    (((Keeps.grown hg1).mono fun k _ e => .inl (Option.some.inj e).symm).alloc o2).trans ((Keeps.grown hgrow2).mono fun k _ e => .inr e)
  have hn2 : ¬ (nb = mb ∨ lv.ownBlock = some nb) := fun e => by rcases e with e | e; omega; exact hnl e
  have k3 : Keeps (Foot nb lv (.map (some mb))) w (w2.setCell ⟨nb, 0, none⟩ (.slice (some ⟨g, 0, none⟩) (ns.length + 1) cap)) :=
    (k2.mono fun k _ e => by rcases e with rfl | e; exact .inr (.inr rfl); exact .inr (.inl e)).setCell (p := ⟨nb, 0, none⟩) (.inl rfl) _
  have hgn : nb < g := (hown2.lt g rfl).1
  have hgm : g ≠ mb := by
    rcases hat2 with e | e
    · rintro rfl; exact hne e
    · simp at e; omega
  have ks : Keeps (fun k => k = nb) w2 (w2.setCell ⟨nb, 0, none⟩ (.slice (some ⟨g, 0, none⟩) (ns.length + 1) cap)) := (Keeps.refl (fun k => k = nb) w2).setCell (p := ⟨nb, 0, none⟩) rfl _
  have d0 := k2.cell h.c0 hn2
  have d1 := k2.cell h.c1 hn2
  have e0 := (World.frozen?_of_block (a := ⟨nb, 0, none⟩) (k2.block nb hnb hn2)).trans h.f0
  have e1 := (World.frozen?_of_block (a := ⟨nb, 1, none⟩) (k2.block nb hnb hn2)).trans h.f1
  refine ⟨.slice (some ⟨g, 0, none⟩) (ns.length + 1) cap, .map (some mb), rfl, ⟨?_, ?_, ?_, ?_, ?_, .inr ⟨mb, rfl, hmb, by simpa [Value.ownBlock] using hgm, ?_⟩⟩, k3, ?_⟩
  · simp [go_sem, d0]
  · simp [go_sem, d1]
  · simp [go_sem, e0]
  · simp [go_sem, e1]
  · have := own_other hown2 ks (fun k e => by simp only [Value.ownBlock, Option.some.injEq] at e; omega)
    simpa using this
  · rw [sd_snoc]
    have m1 := ((hown1.kept (World.grownBy_alloc w1 o2 none) (by simp)).kept hgrow2 (fun e => hne e.symm)).setCell (a := ⟨nb, 0, none⟩) (by show mb ≠ nb; omega) (.slice (some ⟨g, 0, none⟩) (ns.length + 1) cap)
    simpa using m1
  · rintro k (rfl | hk | hk)
    · exact .inl (.inl rfl)
    · simp only [Value.ownBlock, Option.some.injEq] at hk
      subst hk
      rcases hat2 with e | e
      · exact .inl (.inr (.inl e))
      · right; simp at e; omega
    · exact .inl (.inr (.inr hk))
/-- The world behind the map that was made. -/
def firstW (nb : Nat) (o1 : Obj) (w : World) : World := ((w.setCell ⟨nb, 1, none⟩ (.map (some (w.heap.size + 1)))).alloc o1).alloc (.map #[] 0)
theorem firstW_keeps (nb : Nat) (o1 : Obj) (w : World) : Keeps (fun k => k = nb) w (firstW nb o1 w) := (((Keeps.refl (fun k => k = nb) w).setCell (p := ⟨nb, 1, none⟩) rfl _).alloc o1).alloc _
theorem firstW_size (nb : Nat) (o1 : Obj) (w : World) : (firstW nb o1 w).heap.size = w.heap.size + 2 := by simp [firstW, go_sem]
theorem firstW_at {nb : Nat} {lv : Value} {w : World} (o1 : Obj) (h : NamesAt nb [] lv (.map none) w) : NamesAt nb [] lv (.map (some (w.heap.size + 1))) (firstW nb o1 w) := by
  have hnb : nb < w.heap.size := World.block_lt_of_cell? w _ h.c0
  have hlt := h.own.lt
  have c0 := h.c0
  have c1 := h.c1
  have f0 := h.f0
  have f1 := h.f1
  have k2 : Keeps (fun _ => False) (w.setCell ⟨nb, 1, none⟩ (.map (some (w.heap.size + 1)))) (firstW nb o1 w) := ((Keeps.refl _ _).alloc o1).alloc _
  have hz : nb < (w.setCell ⟨nb, 1, none⟩ (.map (some (w.heap.size + 1)))).heap.size := by simpa using hnb
  have d0 : (w.setCell ⟨nb, 1, none⟩ (.map (some (w.heap.size + 1)))).cell? ⟨nb, 0, none⟩ = some lv := by simp [go_sem, c0]
  have d1 : (w.setCell ⟨nb, 1, none⟩ (.map (some (w.heap.size + 1)))).cell? ⟨nb, 1, none⟩ = some (.map (some (w.heap.size + 1))) := by simp [go_sem, c1]
  have g0 : (w.setCell ⟨nb, 1, none⟩ (.map (some (w.heap.size + 1)))).frozen? ⟨nb, 0, none⟩ = false := by simp [go_sem, f0]
  have g1 : (w.setCell ⟨nb, 1, none⟩ (.map (some (w.heap.size + 1)))).frozen? ⟨nb, 1, none⟩ = false := by simp [go_sem, f1]
  refine ⟨k2.cell d0 (fun e => e), k2.cell d1 (fun e => e), (World.frozen?_of_block (a := ⟨nb, 0, none⟩) (k2.block nb hz (fun e => e))).trans g0, (World.frozen?_of_block (a := ⟨nb, 1, none⟩) (k2.block nb hz (fun e => e))).trans g1, own_other h.own (firstW_keeps nb o1 w) (fun k e => by have := hlt k e; omega), .inr ⟨_, rfl, by omega, fun e => by have := (hlt _ e).2; omega, ?_⟩⟩
  have hm : (firstW nb o1 w).heap[w.heap.size + 1]? = some (.map #[] 0) := by
    have hz2 : w.heap.size + 1 = ((w.setCell ⟨nb, 1, none⟩ (.map (some (w.heap.size + 1)))).alloc o1).heap.size := by simp
    rw [hz2]
    have key : ∀ (a : Array Obj) (o : Obj), (a.push o)[a.size]? = some o := by intro a o; simp
    exact key _ _
  have := (Go.Joins.ownsMap_empty (H := Unit) (P := Try.prog) (k := 9) (R := unitElem (H := Unit)) hm)
  simpa [Sd, setOf] using this
theorem added_last {nb mb g cap : Nat} {lv : Value} {s : ByteArray} {w w1 w2 : World} {o2 : Obj} (h : NamesAt nb [] lv (.map (some mb)) w)
    (hg1 : w.grownBy w1 (some mb)) (hown1 : w1.ownsMap Try.prog 9 (unitElem (H := Unit)) mb (0 + 1) ((Sd []).put (kl s) (.agg [])))
    (hown2 : w2.ownsRow (nb + 1) 9 1 (.slice (some ⟨g, 0, none⟩) (0 + 1) cap) (0 + 1) ([] ++ [.string s])) (hgrow2 : (w1.alloc o2).grownBy w2 lv.ownBlock) (hat2 : lv.ownBlock = some g ∨ g = (w1.alloc o2).heap.size) :
    Added nb [s] lv (.map (some mb)) w (.returned (.tuple #[])) (w2.setCell ⟨nb, 0, none⟩ (.slice (some ⟨g, 0, none⟩) (0 + 1) cap)) := by
  rcases h.map with ⟨e, _⟩ | ⟨mb', e, hmb, hne, hown⟩
  · cases e
  · cases e
    exact added_from (ns := []) h hmb hne hown.lt hg1 hown1 hown2 hgrow2 hat2
theorem added_first {nb : Nat} {ns' : List ByteArray} {lv : Value} {o1 : Obj} {w w' : World} {e : Ending} (h : Added nb ns' lv (.map (some (w.heap.size + 1))) (firstW nb o1 w) e w') : Added nb ns' lv (.map none) w e w' := by
  obtain ⟨lv', mv', he, hn, hk, hf⟩ := h
  refine ⟨lv', mv', he, hn, ((firstW_keeps nb o1 w).mono fun k _ e => .inl e).trans2 hk ?_, ?_⟩
  · rintro j hj (e | e | e)
    · exact .inl e
    · exact .inr (.inl e)
    · have : w.heap.size + 1 = j := by simpa using e
      omega
  · intro k hk'
    rcases hf k hk' with (e | e | e) | e
    · exact .inl (.inl e)
    · exact .inl (.inr (.inl e))
    · right; have : w.heap.size + 1 = k := by simpa using e
      omega
    · right; rw [firstW_size] at e; omega
theorem firstW_own {nb : Nat} {lv : Value} {w : World} {o1 : Obj} (h : NamesAt nb [] lv (.map (some (w.heap.size + 1))) (firstW nb o1 w)) : (((w.setCell ⟨nb, 1, none⟩ (.map (some (w.heap.size + 1)))).alloc o1).alloc (.map #[] 0)).ownsMap Try.prog 9 (unitElem (H := Unit)) (w.heap.size + 1) 0 (Sd []) := by
  rcases h.map with ⟨e, _⟩ | ⟨mb, e, _, _, hown⟩
  · cases e
  · cases e
    exact hown
theorem first_step {nb mb : Nat} {lv : Value} {wm w1 : World} (h : NamesAt nb [] lv (.map (some mb)) wm) (hg : wm.grownBy w1 (some mb)) :
    w1.cell? ⟨nb, 0, none⟩ = some lv ∧ w1.frozen? ⟨nb, 0, none⟩ = false ∧ w1.ownsRow (nb + 1) 9 1 lv 0 [] ∧ nb < w1.heap.size := by
  have hnb : nb < wm.heap.size := World.block_lt_of_cell? wm _ h.c0
  have hsz := hg.size
  rcases h.map with ⟨e, _⟩ | ⟨mb', e, hmb, hne, _⟩
  · cases e
  · cases e
    have hn1 : some nb ≠ some mb := by simp; omega
    exact ⟨hg.cell (a := ⟨nb, 0, none⟩) h.c0 hn1, (World.frozen?_of_block (hg.block nb hnb hn1)).trans h.f0, h.own.kept hg (.inr hne), by omega⟩
theorem run_look_nil (s : ByteArray) (hs : s.size ≤ maxLen) (w : World) : (Instr.lookup 88 (.map none) (.string s) true).run Try.prog w = .ok (.tuple #[.agg #[], .bool false]) w :=
  Maps.look_nil true lawStr Try.underlying88 (zeroUnit w) (kl_key s hs)
set_option maxRecDepth 100000 in
set_option maxHeartbeats 2000000 in
theorem add_first (nb : Nat) (lv : Value) (s : ByteArray) (hs : s.size ≤ maxLen) (w : World) (h : NamesAt nb [] lv (.map none) w) :
    Calls Try.prog 54 #[.pointer (some ⟨nb, 0, none⟩), .string s] w (Added nb [s] lv (.map none) w) := by
  have hkey := kl_key s hs
  obtain ⟨i0, hi, hz0, hz1, hz2⟩ := info_parts infoString
  have c0 := h.c0
  have c1 := h.c1
  have f0 := h.f0
  have f1 := h.f1
  have hlt := h.own.lt
  have hnb : nb < w.heap.size := World.block_lt_of_cell? w _ c0
  have HF := Lib.hid (firstW_at (.cells #[] 101) h)
  have hmf := fun w (m : Option Nat) => run_eql_map_nil (P := Try.prog) w 88 9 101 m Try.underlying88
  have hmm := @run_makeMap Try.prog
  have hlk := run_look_nil s hs
  clear h hs
  go_enter Try.func54, Try.ntmps54
  go_wp2_with (first
    | (at_mapUpdate; refine wpList_mapUpdate_in _ rfl _ _ _ 88 rfl 9 101 lawStr Try.underlying88 (unitElem (H := Unit)) (w.heap.size + 1) 0 (Sd []) rfl (firstW_own HF.out) (by decide) _ _ _ rfl rfl hkey _ [] unitElem_mk ?_; intro w1 hown1 hturn1; have HG1 := Lib.hid (And.intro hturn1.grown hown1); obtain ⟨d0, e0, hrow1, hz1b⟩ := first_step HF.out hturn1.grown; have HR1 := Lib.hid hrow1; clear hown1 hturn1 hrow1)
    | (at_builtin; refine wpList_append_lies _ rfl (.tmp 35) (.tmp 37) 25 rfl (nb + 1) 9 i0 _ 1 16 Try.underlying25 hi hz0 hz1 hz2 rfl (by decide) lv _ _ rfl (HR1.out.alloc _) ⟨w1.heap.size, 0, none⟩ 1 1 [.string s] rfl rfl ?_ ?_ (by omega) ?_ ?_ ?_ _ rfl ?_; rotate_left 5; intro g cap w2 hown2 hgrow2 hat2 hlt2; have hnl : some nb ≠ lv.ownBlock := (fun e => by have := (hlt nb e.symm).1; omega); have e2 : w2.frozen? ⟨nb, 0, none⟩ = false := (World.frozen?_of_block (hgrow2.block nb (by simp; omega) hnl)).trans ((((Below.refl w1.heap.size w1).alloc (Nat.le_refl _) _).frozen (p := ⟨nb, 0, none⟩) (by show nb < w1.heap.size; omega)).trans e0); have d2 : w2.cell? ⟨nb, 0, none⟩ = some lv := hgrow2.cell (a := ⟨nb, 0, none⟩) ((((Below.refl w1.heap.size w1).alloc (Nat.le_refl _) _).cell (p := ⟨nb, 0, none⟩) (by show nb < w1.heap.size; omega)).trans d0) hnl))
  · go_end0
    exact added_first (added_last HF.out HG1.out.1 HG1.out.2 hown2 hgrow2 hat2)
  · intro j u hj
    rcases j with _ | j <;> simp at hj
    subst hj
    simp [Addr.add, go_sem]
  · intro u hu
    simp at hu
    subst hu
    rfl
  · unfold maxLen; omega
  · omega
  · simp; omega
end Tx
end Go.Proofs.Ytggoejghnlgigaa
