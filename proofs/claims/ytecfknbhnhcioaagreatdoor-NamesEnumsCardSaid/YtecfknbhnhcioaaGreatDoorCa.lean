/- Package tree: what a block of one call calls: its steps. -/
import Derived.Test.YtecfknbhnhcioaaGreatDoorMi
import Derived.Test.YtecfknbhnhcioaaGreatDoorBd
namespace Go.Proofs.YtecfknbhnhcioaaGreatDoor
open Go.ChangeShapes Go.WideShapes Go.ChangeAt Go.RowKit Go.Maps
namespace Tx
set_option linter.unusedVariables false
set_option linter.unusedSimpArgs false
theorem mkm_unit (w : World) : (Instr.makeMap 72 none).run Tryz.prog w = .ok (.map (some w.heap.size)) (w.alloc (.map #[] 0)) := by kernel_rfl
theorem mapNilT_eq (w : World) : (binOp BinOp.eql 72 (Value.map none) (Value.map none)).run Tryz.prog w = .ok (.bool true) w := by kernel_rfl
theorem run_look_nilT (s : ByteArray) (hs : s.size ≤ maxLen) (w : World) : (Instr.lookup 72 (.map none) (.string s) true).run Tryz.prog w = .ok (.tuple #[.agg #[], .bool false]) w := by kernel_rfl
set_option maxRecDepth 100000 in
set_option maxHeartbeats 4000000 in
theorem addT_first (nl : Nat) (s : ByteArray) (hs : s.size ≤ maxLen) (W : World) (h0 : W.cell? ⟨nl, 0, none⟩ = some (.slice none 0 0)) (h1 : W.cell? ⟨nl, 1, none⟩ = some (.map none)) (f0 : W.frozen? ⟨nl, 0, none⟩ = false) (f1 : W.frozen? ⟨nl, 1, none⟩ = false) :
    Calls Tryz.prog 69 #[.pointer (some ⟨nl, 0, none⟩), .string s] W fun e w' => e = .returned (.tuple #[]) ∧ ∃ r cr, w'.cell? ⟨nl, 0, none⟩ = some (.slice (some ⟨r, 0, none⟩) 1 cr) ∧ w'.cell? ⟨r, 0, none⟩ = some (.string s) ∧ W.heap.size ≤ r ∧ Keeps (fun k => k = nl) W w' := by
  have hmk := mkm_unit
  have he := mapNilT_eq
  have hl := run_look_nilT s hs
  have lb := World.block_lt_of_cell? _ _ h0
  have hkey := kl_key s hs
  have a0 : ∀ x, (W.alloc x).cell? ⟨nl, 1, none⟩ = some (.map none) := cellA h1
  have a1 : ∀ x, (W.alloc x).frozen? ⟨nl, 1, none⟩ = false := frozenA lb f1
  go_enter Tryz.func69, Tryz.ntmps69
  go_wp2_with fail
  generalize hW1 : World.alloc (World.alloc (World.setCell _ _ _) _) _ = W1
  have hs1 : SetAt (W.heap.size + 1) [] W1 := by
    rw [← hW1]
    have := set_made ((W.setCell ⟨nl, 1, none⟩ (.map (some (W.heap.size + 1)))).alloc (.cells #[] 118))
    rwa [show ((W.setCell ⟨nl, 1, none⟩ (.map (some (W.heap.size + 1)))).alloc (.cells #[] 118)).heap.size = W.heap.size + 1 by simp] at this
  have z1 : W1.heap.size = W.heap.size + 2 := by rw [← hW1]; simp
  have k1 : Keeps (fun k => k = nl) W W1 := by rw [← hW1]; exact (((Keeps.refl (fun k => k = nl) _).setCell (p := ⟨nl, 1, none⟩) rfl _).alloc _).alloc _
  have x0 : W1.cell? ⟨nl, 0, none⟩ = some (.slice none 0 0) := by rw [← hW1]; exact cellA (cellA (by simp [go_sem, h0]) _) _
  have y0 : W1.frozen? ⟨nl, 0, none⟩ = false := by rw [← hW1]; exact frozenA (by simp; omega) (frozenA (by simp; omega) (by simp [go_sem, f0]) _) _
  clear hW1 h0 h1 f0 f1 a0 a1
  obtain ⟨w2, hrun, hown2, hturn2⟩ := World.ownsMap.store hs1 lawStr Tryz.underlying72 (show ([] : List ByteArray).length < maxLen by unfold maxLen; simp) hkey unitElem_mk
  have k2 : Keeps (fun k => k = W.heap.size + 1) W1 w2 := (Keeps.grownB hturn2.grown).mono fun k _ e => (Option.some.inj e).symm
  have x2 := k2.cell x0 (by omega)
  have y2 := (World.frozen?_of_block (a := ⟨nl, 0, none⟩) (k2.block nl (by omega) (by omega))).trans y0
  have z2 := k2.size
  have lb2 : nl < w2.heap.size := by omega
  have K2 := Lib.hid (show Keeps (fun k => k = nl) W w2 from k1.own (k2.mono (T := fun k => k = nl ∨ W.heap.size ≤ k) fun k _ e => .inr (by omega)))
  clear k1 k2 hs1 hown2 hturn2 x0 y0
  obtain ⟨i0, hi0, hz0, hz1, hz2⟩ := info_parts infoStr1
  have hnil : w2.ownsRow w2.heap.size 9 1 (.slice none 0 0) 0 [] := World.ownsRow_nil _ _ _ _
  rw [hrun]
  go_wp2_with (at_builtin; refine wpList_append_lies _ rfl (.tmp 35) (.tmp 37) 22 rfl w2.heap.size 9 i0 _ 1 16 Tryz.underlying22 hi0 hz0 hz1 hz2 rfl (by decide) (.slice none 0 0) 0 [] rfl (hnil.alloc _) ⟨w2.heap.size, 0, none⟩ 1 1 [.string s] rfl rfl ?c1 ?c2 (by decide) (by decide) (by decide) (by simp) (w2.heap.size + 1) (by simp) ?_; rotate_left 2; intro g cap w5 hown hgrow hat hlt; have k5 : Keeps (fun _ => False) w2 w5 := ((Keeps.refl _ _).alloc _).trans ((Keeps.grownB hgrow).mono fun k _ e => by cases e); have d0 := k5.cell x2 id; have df : w5.frozen? ⟨nl, 0, none⟩ = false := (World.frozen?_of_block (a := ⟨nl, 0, none⟩) (k5.block nl lb2 id)).trans y2; have HG := Lib.hid (And.intro hown (And.intro k5 hat)); clear hown hgrow hat k5)
  all_goals first
    | exact World.news_of_block (cs := #[.string s]) (t := 9) (fr := (0, 0)) (heap_alloc_new w2 _)
    | (simp [Value.oneCell']; done)
    | skip
  go_end0
  obtain ⟨hown, k5, hat⟩ := HG.out
  have hg := (hown.lt g rfl).1
  have c0 := hown.cellAt 0 (by simp)
  have k6 : Keeps (fun k => k = nl) w2 w5 := k5.mono fun _ _ h => h.elim
  refine ⟨rfl, g, cap, by simp [go_sem, d0], ?_, by omega, (K2.out.trans k6).setCell (p := ⟨nl, 0, none⟩) rfl _⟩
  exact ((Keeps.refl (fun k => k = nl) w5).setCell (p := ⟨nl, 0, none⟩) rfl _).cell (show w5.cell? ⟨g, 0, none⟩ = some (.string s) by simpa using c0) (by omega)
set_option maxHeartbeats 1000000 in
theorem pass_any (x : Value) (W : World) : Calls Tryz.prog 67 #[x] W fun e w' => e = .returned (.tuple #[]) ∧ w' = W := by
  go_enter Tryz.func67, Tryz.ntmps67
  go_wp2
  go_end0
  exact ⟨rfl, rfl⟩
set_option maxHeartbeats 1000000 in
theorem endlessB_any (fn : FuncId) (b c : Array Value) (W : World) : Calls Tryz.prog 100 #[.func (Fn.func fn) b c] W fun e w' => e = .returned (.func (Fn.func 130) #[] #[.pointer (some ⟨W.heap.size, 0, none⟩)]) ∧ w'.cell? ⟨W.heap.size, 0, none⟩ = some (.func (Fn.func fn) b c) ∧ w'.heap.size = W.heap.size + 1 ∧ Keeps (fun _ => False) W w' := by
  go_enter Tryz.func100, Tryz.ntmps100
  go_wp2
  go_ret
  exact ⟨rfl, by simp [go_sem], by simp, (Keeps.refl _ _).alloc _⟩
set_option maxHeartbeats 1000000 in
theorem endlessE_any (fn : FuncId) (b c : Array Value) (W : World) : Calls Tryz.prog 101 #[.func (Fn.func fn) b c] W fun e w' => e = .returned (.func (Fn.func 131) #[] #[.pointer (some ⟨W.heap.size, 0, none⟩)]) ∧ w'.cell? ⟨W.heap.size, 0, none⟩ = some (.func (Fn.func fn) b c) ∧ w'.heap.size = W.heap.size + 1 ∧ Keeps (fun _ => False) W w' := by
  go_enter Tryz.func101, Tryz.ntmps101
  go_wp2
  go_ret
  exact ⟨rfl, by simp [go_sem], by simp, (Keeps.refl _ _).alloc _⟩
set_option maxHeartbeats 1000000 in
theorem calls1_call (qb nl : Nat) (s : ByteArray) (hs : s.size ≤ maxLen) (W : World) (q0 : W.cell? ⟨qb, 0, none⟩ = some (.int .u8 2)) (q2 : W.cell? ⟨qb, 2, none⟩ = some (.string s)) (h0 : W.cell? ⟨nl, 0, none⟩ = some (.slice none 0 0)) (h1 : W.cell? ⟨nl, 1, none⟩ = some (.map none)) (f0 : W.frozen? ⟨nl, 0, none⟩ = false) (f1 : W.frozen? ⟨nl, 1, none⟩ = false) :
    Calls Tryz.prog 68 #[.pointer (some ⟨qb, 0, none⟩), .pointer (some ⟨nl, 0, none⟩)] W fun e w' => e = .returned (.tuple #[]) ∧ ∃ r cr, w'.cell? ⟨nl, 0, none⟩ = some (.slice (some ⟨r, 0, none⟩) 1 cr) ∧ w'.cell? ⟨r, 0, none⟩ = some (.string s) ∧ W.heap.size ≤ r ∧ Keeps (fun k => k = nl) W w' := by
  go_enter Tryz.func68, Tryz.ntmps68
  go_wp2_with fail
  refine (addT_first nl s hs W h0 h1 f0 f1).mono ?_
  rintro e w1 ⟨rfl, hr⟩
  have HR := Lib.hid hr
  clear hr q0 q2 h0 h1 f0 f1
  go_wp2
  go_end0
  exact ⟨rfl, HR.out⟩
set_option maxHeartbeats 1000000 in
theorem endlessB1_pass (bx : Nat) (x : Value) (W : World) (h : W.cell? ⟨bx, 0, none⟩ = some (.func (Fn.func 67) #[] #[])) : Calls Tryz.prog 130 #[x, .pointer (some ⟨bx, 0, none⟩)] W fun e w' => e = .returned .nilIface ∧ w' = W := by
  go_enter Tryz.func130, Tryz.ntmps130
  go_wp2_with fail
  refine (pass_any x W).mono ?_
  rintro e w1 ⟨rfl, rfl⟩
  go_wp2
  go_ret
  exact ⟨rfl, rfl⟩
set_option maxHeartbeats 1000000 in
theorem endlessE1_calls (bx qb nl : Nat) (s : ByteArray) (hs : s.size ≤ maxLen) (W : World) (h : W.cell? ⟨bx, 0, none⟩ = some (.func (Fn.func 68) #[] #[.pointer (some ⟨nl, 0, none⟩)])) (q0 : W.cell? ⟨qb, 0, none⟩ = some (.int .u8 2)) (q2 : W.cell? ⟨qb, 2, none⟩ = some (.string s)) (h0 : W.cell? ⟨nl, 0, none⟩ = some (.slice none 0 0)) (h1 : W.cell? ⟨nl, 1, none⟩ = some (.map none)) (f0 : W.frozen? ⟨nl, 0, none⟩ = false) (f1 : W.frozen? ⟨nl, 1, none⟩ = false) :
    Calls Tryz.prog 131 #[.pointer (some ⟨qb, 0, none⟩), .pointer (some ⟨bx, 0, none⟩)] W fun e w' => e = .returned .nilIface ∧ ∃ r cr, w'.cell? ⟨nl, 0, none⟩ = some (.slice (some ⟨r, 0, none⟩) 1 cr) ∧ w'.cell? ⟨r, 0, none⟩ = some (.string s) ∧ W.heap.size ≤ r ∧ Keeps (fun k => k = nl) W w' := by
  go_enter Tryz.func131, Tryz.ntmps131
  go_wp2_with fail
  refine (calls1_call qb nl s hs W q0 q2 h0 h1 f0 f1).mono ?_
  rintro e w1 ⟨rfl, hr⟩
  have HR := Lib.hid hr
  clear hr q0 q2 h0 h1 f0 f1 h
  go_wp2
  go_ret
  exact ⟨rfl, HR.out⟩
end Tx
end Go.Proofs.YtecfknbhnhcioaaGreatDoor
