/- Package names: a block without variables is entered. -/
import Derived.Test.YtecfknbhnhcioaaGreatDoorNh
namespace Go.Proofs.YtecfknbhnhcioaaGreatDoor
open Go.ChangeShapes Go.WideShapes Go.ChangeAt Go.RowKit Go.Maps
namespace Tx
set_option linter.unusedVariables false
set_option linter.unusedSimpArgs false
theorem infoDef : (Tryz.prog.info? 122).map (fun i => (i.zero, i.size, i.bytes)) = some (some (Value.agg #[.slice none 0 0, .map none]), 2, 32) := by kernel_rfl
theorem own_asideN {w w' : World} {S : Nat → Prop} {base : Nat} {e : TypeId} {size n : Nat} {v : Value} {xs : List Value} (h : w.ownsRow base e size v n xs) (hk : Keeps S w w') (hS : ∀ k, v.ownBlock = some k → ¬ S k) : w'.ownsRow base e size v n xs := by
  refine ⟨h.1, ?_⟩
  rcases h.2 with hv | ⟨g, cap, cur, hv, h1, h2, h3⟩
  · exact .inl hv
  · exact .inr ⟨g, cap, cur, hv, h1, (hk.block g (Array.getElem?_eq_some_iff.1 h2).1 (hS g (by rw [hv]; rfl))).trans h2, h3⟩
theorem Keeps.trans2N {S T : Nat → Prop} {a b c : World} (h : Keeps S a b) (k : Keeps T b c) (hT : ∀ j, j < a.heap.size → T j → S j) : Keeps S a c :=
  ⟨k.os.trans h.os, k.tape.trans h.tape, k.output.trans h.output, Nat.le_trans h.size k.size, fun i hi hs => (k.block i (Nat.lt_of_lt_of_le hi h.size) (fun e => hs (hT i hi e))).trans (h.block i hi hs)⟩
theorem Keeps.own {S : Nat → Prop} {a b c : World} (h : Keeps S a b) (k : Keeps (fun k => S k ∨ a.heap.size ≤ k) b c) : Keeps S a c := h.trans2N k fun j hj e => e.resolve_right (by omega)
theorem alloc_lawN (w : World) (o : Obj) : (w.alloc o).drew.heap[w.heap.size]? = some o := by
  have key : ∀ (a : Array Obj) (o : Obj), (a.push o)[a.size]? = some o := by intro a o; simp
  exact key _ _
set_option maxRecDepth 100000 in
set_option maxHeartbeats 4000000 in
theorem enter_none (cb bb bo : Nat) (ao : Option Addr) (c : Nat) (W : World) (h4 : W.cell? ⟨cb, 4, none⟩ = some (.slice none 0 0)) (f4 : W.frozen? ⟨cb, 4, none⟩ = false) (hb : W.cell? ⟨bb, bo, none⟩ = some (.slice ao 0 c)) :
    Calls Tryz.prog 77 #[.pointer (some ⟨cb, 0, none⟩), .pointer (some ⟨bb, bo, none⟩)] W fun e w' => e = .returned .nilIface ∧ ∃ g cap, w'.cell? ⟨cb, 4, none⟩ = some (.slice (some ⟨g, 0, none⟩) 1 cap) ∧ w'.frozen? ⟨cb, 4, none⟩ = false ∧ W.heap.size ≤ g ∧ w'.ownsRow W.heap.size 122 2 (.slice (some ⟨g, 0, none⟩) 1 cap) 1 [.slice none 0 0, .map none] ∧ Keeps (fun k => k = cb) W w' ∧ ∀ o v, o ≠ 4 → W.cell? ⟨cb, o, none⟩ = some v → w'.cell? ⟨cb, o, none⟩ = some v := by
  go_enter Tryz.func77, Tryz.ntmps77
  go_wp2_with fail
  go_loopg [14] 0 (fun g iv wr => iv = .int .i64 0 ∧ wr = W)
  case atStart => exact ⟨rfl, rfl⟩
  case round =>
    obtain ⟨rfl, rfl⟩ := hrel
    go_wp2_with fail
    go_loopg [34] 0 (fun g iv w2 => iv = .int .i64 0 ∧ w2 = wr)
    case atStart => exact ⟨rfl, rfl⟩
    case round =>
      obtain ⟨rfl, rfl⟩ := hrel
      go_upto_region 14 with (fail)
      obtain ⟨i0, hi0, hz0, hz1, hz2⟩ := info_parts infoDef
      have hnil : wr.ownsRow wr.heap.size 122 2 (.slice none 0 0) 0 [] := World.ownsRow_nil _ _ _ _
      have lc := World.block_lt_of_cell? _ _ h4
      go_wp2_with (at_builtin; refine wpList_append_lies _ rfl (.tmp 51) (.tmp 53) 75 rfl wr.heap.size 122 i0 _ 2 32 Tryz.underlying75 hi0 hz0 hz1 hz2 rfl (by decide) (.slice none 0 0) 0 [] rfl (hnil.alloc _) ⟨wr.heap.size, 0, none⟩ 1 1 [.slice none 0 0, .map none] rfl rfl ?c1 ?c2 (by decide) (by decide) (by decide) (by simp) (wr.heap.size + 1) (by simp) ?_; rotate_left 2; intro g cap w5 hown hgrow hat hlt; have k5 : Keeps (fun _ => False) wr w5 := ((Keeps.refl _ _).alloc _).trans ((Keeps.grownB hgrow).mono fun k _ e => by cases e); have d0 := k5.cell h4 id; have df : w5.frozen? ⟨cb, 4, none⟩ = false := (World.frozen?_of_block (a := ⟨cb, 4, none⟩) (k5.block cb lc id)).trans f4; have HG := Lib.hid (And.intro hown (And.intro k5 hat)); clear hown hgrow hat k5 hb)
      case c2 => simp [Value.oneCell']
      go_ret
      obtain ⟨hown, k5, hat⟩ := HG.out
      have hg := (hown.lt g rfl).1
      have k6 : Keeps (fun k => k = cb) wr w5 := k5.mono fun _ _ h => h.elim
      refine ⟨rfl, g, cap, by simp [go_sem, d0], by simp [go_sem, df], hg, ?_, k6.setCell (p := ⟨cb, 4, none⟩) rfl _, fun o v ho hv => by have := k5.cell hv id; simp [go_sem, this, ho, Ne.symm ho]⟩
      exact own_asideN hown ((Keeps.refl (fun k => k = cb) w5).setCell (p := ⟨cb, 4, none⟩) rfl _) (fun k e => by simp [Value.ownBlock] at e; omega)
end Tx
end Go.Proofs.YtecfknbhnhcioaaGreatDoor
