/- Package names: the first variable that is defined. -/
import Derived.Test.YtecfknbhnhcioaaGreatDoorNi
import Derived.Test.YtecfknbhnhcioaaGreatDoorBa
namespace Go.Proofs.YtecfknbhnhcioaaGreatDoor
open Go.ChangeShapes Go.WideShapes Go.ChangeAt Go.RowKit Go.Maps
namespace Tx
set_option linter.unusedVariables false
set_option linter.unusedSimpArgs false
theorem infoStr1 : (Tryz.prog.info? 9).map (fun i => (i.zero, i.size, i.bytes)) = some (some (Value.string ⟨#[]⟩), 1, 16) := by kernel_rfl
theorem mapNil_eq (w : World) : (binOp BinOp.eql 73 (Value.map none) (Value.map none)).run Tryz.prog w = .ok (.bool true) w := by kernel_rfl
set_option maxRecDepth 100000 in
set_option maxHeartbeats 4000000 in
theorem defAdd_first (db : Nat) (s : ByteArray) (hs : s.size ≤ maxLen) (W : World) (h0 : W.cell? ⟨db, 0, none⟩ = some (.slice none 0 0)) (h1 : W.cell? ⟨db, 1, none⟩ = some (.map none)) (f0 : W.frozen? ⟨db, 0, none⟩ = false) (f1 : W.frozen? ⟨db, 1, none⟩ = false) :
    Calls Tryz.prog 122 #[.pointer (some ⟨db, 0, none⟩), .string s] W fun e w' => e = .returned (.bool true) ∧ ∃ lx cap dm, w'.cell? ⟨db, 0, none⟩ = some (.slice (some ⟨lx, 0, none⟩) 1 cap) ∧ w'.cell? ⟨db, 1, none⟩ = some (.map (some dm)) ∧ w'.cell? ⟨lx, 0, none⟩ = some (.string s) ∧ SetAt dm [s] w' ∧ W.heap.size ≤ lx ∧ W.heap.size ≤ dm ∧ lx ≠ dm ∧ Keeps (fun k => k = db) W w' := by
  have hmk := mkm_set
  have lb := World.block_lt_of_cell? _ _ h0
  have hn : Maps.has (Sd []) (kl s) = false := rfl
  go_enter Tryz.func122, Tryz.ntmps122
  have he := mapNil_eq
  go_wp2_with fail
  generalize hW1 : World.alloc (World.setCell _ _ _) _ = W1
  have hs1 : SetAt W.heap.size [] W1 := by
    rw [← hW1]
    have := set_made (W.setCell ⟨db, 1, none⟩ (.map (some W.heap.size)))
    rwa [show (W.setCell ⟨db, 1, none⟩ (.map (some W.heap.size))).heap.size = W.heap.size by simp] at this
  have z1 : W1.heap.size = W.heap.size + 1 := by rw [← hW1]; simp
  have k1 : Keeps (fun k => k = db) W W1 := by rw [← hW1]; exact ((Keeps.refl (fun k => k = db) _).setCell (p := ⟨db, 1, none⟩) rfl _).alloc _
  have x0 : W1.cell? ⟨db, 0, none⟩ = some (.slice none 0 0) := by rw [← hW1]; exact cellA (by simp [go_sem, h0]) _
  have x1 : W1.cell? ⟨db, 1, none⟩ = some (.map (some W.heap.size)) := by rw [← hW1]; exact cellA (by simp [go_sem, h1]) _
  have y0 : W1.frozen? ⟨db, 0, none⟩ = false := by rw [← hW1]; exact frozenA (by simp; omega) (by simp [go_sem, f0]) _
  clear hW1 h0 h1 f0 f1
  refine (setAdd_new W.heap.size [] s hs (by simp) W1 hs1 hn).mono ?_
  rintro e w2 ⟨rfl, hs2, k2⟩
  have x20 := k2.cell x0 (by omega)
  have x21 := k2.cell x1 (by omega)
  have y20 := (World.frozen?_of_block (a := ⟨db, 0, none⟩) (k2.block db (by omega) (by omega))).trans y0
  have z2 := k2.size
  have lb2 : db < w2.heap.size := by omega
  have K2 := Lib.hid (And.intro k1 (And.intro k2 (show SetAt W.heap.size [s] w2 from hs2)))
  clear k1 k2 hs1 hs2 x0 x1 y0
  obtain ⟨i0, hi0, hz0, hz1, hz2⟩ := info_parts infoStr1
  have hnil : w2.ownsRow w2.heap.size 9 1 (.slice none 0 0) 0 [] := World.ownsRow_nil _ _ _ _
  go_wp2_with (at_builtin; refine wpList_append_lies _ rfl (.tmp 25) (.tmp 27) 22 rfl w2.heap.size 9 i0 _ 1 16 Tryz.underlying22 hi0 hz0 hz1 hz2 rfl (by decide) (.slice none 0 0) 0 [] rfl (hnil.alloc _) ⟨w2.heap.size, 0, none⟩ 1 1 [.string s] rfl rfl ?c1 ?c2 (by decide) (by decide) (by decide) (by simp) (w2.heap.size + 1) (by simp) ?_; rotate_left 2; intro g cap w5 hown hgrow hat hlt; have k5 : Keeps (fun _ => False) w2 w5 := ((Keeps.refl _ _).alloc _).trans ((Keeps.grownB hgrow).mono fun k _ e => by cases e); have d0 := k5.cell x20 id; have d1 := k5.cell x21 id; have df : w5.frozen? ⟨db, 0, none⟩ = false := (World.frozen?_of_block (a := ⟨db, 0, none⟩) (k5.block db lb2 id)).trans y20; have HG := Lib.hid (And.intro hown (And.intro k5 hat)); clear hown hgrow hat k5)
  all_goals first
    | exact World.news_of_block (cs := #[.string s]) (t := 9) (fr := (0, 0)) (heap_alloc_new w2 _)
    | (simp [Value.oneCell']; done)
    | skip
  go_ret
  obtain ⟨hown, k5, hat⟩ := HG.out
  obtain ⟨k1, k2, hs2⟩ := K2.out
  have hg := (hown.lt g rfl).1
  have c0 := hown.cellAt 0 (by simp)
  have k6 : Keeps (fun k => k = db) w2 w5 := k5.mono fun _ _ h => h.elim
  have k12 : Keeps (fun k => k = db) W w2 := k1.trans2N k2 (fun j hj e => by omega)
  refine ⟨rfl, g, cap, W.heap.size, by simp [go_sem, d0], by simp [go_sem, d1], ?_, ?_, by omega, Nat.le_refl _, by omega, (k12.trans k6).setCell (p := ⟨db, 0, none⟩) rfl _⟩
  · exact ((Keeps.refl (fun k => k = db) w5).setCell (p := ⟨db, 0, none⟩) rfl _).cell (show w5.cell? ⟨g, 0, none⟩ = some (.string s) by simpa using c0) (by omega)
  · exact World.ownsMap.setCell (World.ownsMap.kept hs2 (show w2.grownBy w5 none from ⟨k5.os, k5.tape, k5.output, k5.size, fun k hk _ => k5.block k hk id⟩) (by simp)) (by simp; omega) _
end Tx
end Go.Proofs.YtecfknbhnhcioaaGreatDoor
