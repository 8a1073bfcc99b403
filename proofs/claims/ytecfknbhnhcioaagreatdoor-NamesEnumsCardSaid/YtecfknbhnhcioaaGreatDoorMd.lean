/- Package names: a block without variables is left. -/
import Derived.Test.YtecfknbhnhcioaaGreatDoorMc
namespace Go.Proofs.YtecfknbhnhcioaaGreatDoor
open Go.ChangeShapes Go.WideShapes Go.ChangeAt Go.RowKit Go.Maps
namespace Tx
set_option linter.unusedVariables false
set_option linter.unusedSimpArgs false
set_option maxRecDepth 100000 in
set_option maxHeartbeats 4000000 in
theorem leaveB_one (cb bb bo g cap lx cl dm l cpl : Nat) (ao : Option Addr) (c : Nat) (s : ByteArray) (hs : s.size ≤ maxLen) (hcap : 1 ≤ cap) (hcpl : 1 ≤ cpl) (W : World)
    (h4 : W.cell? ⟨cb, 4, none⟩ = some (.slice (some ⟨g, 0, none⟩) 1 cap)) (f4 : W.frozen? ⟨cb, 4, none⟩ = false) (h5 : W.cell? ⟨cb, 5, none⟩ = some (.slice (some ⟨l, 0, none⟩) 1 cpl)) (g0 : W.cell? ⟨g, 0, none⟩ = some (.slice (some ⟨lx, 0, none⟩) 1 cl)) (g1 : W.cell? ⟨g, 1, none⟩ = some (.map (some dm))) (hl : W.cell? ⟨lx, 0, none⟩ = some (.string s)) (hd : SetAt dm [s] W)
    (l1 : W.cell? ⟨l, 1, none⟩ = some (.slice none 0 0)) (fl : W.frozen? ⟨l, 1, none⟩ = false) (hb : W.cell? ⟨bb, bo, none⟩ = some (.slice ao 0 c)) (e1 : cb ≠ l) (e2 : cb ≠ lx) (e3 : cb ≠ dm) (e4 : cb ≠ bb) (e5 : l ≠ lx) (e6 : l ≠ dm) (e7 : dm < W.heap.size) :
    Calls Tryz.prog 81 #[.pointer (some ⟨cb, 0, none⟩), .pointer (some ⟨bb, bo, none⟩)] W fun e w' => e = .returned .nilIface ∧ (∃ q cq, w'.cell? ⟨l, 1, none⟩ = some (.slice (some ⟨q, 0, none⟩) 1 cq) ∧ w'.cell? ⟨q, 0, none⟩ = some (.slice (some ⟨lx, 0, none⟩) 1 cl) ∧ w'.cell? ⟨q, 1, none⟩ = some (.map (some dm)) ∧ W.heap.size ≤ q) ∧ w'.cell? ⟨cb, 5, none⟩ = some (.slice (some ⟨l, 0, none⟩) 1 cpl) ∧ Keeps (fun k => k = cb ∨ k = l) W w' := by
  have lc := World.block_lt_of_cell? _ _ h4
  have ll := World.block_lt_of_cell? _ _ l1
  have lbb := World.block_lt_of_cell? _ _ hb
  have llx := World.block_lt_of_cell? _ _ hl
  go_enter Tryz.func81, Tryz.ntmps81
  go_wp2_with fail
  refine (popD_one cb 4 g cap lx cl dm hcap W h4 f4 g0 g1).mono ?_
  rintro e w1 ⟨rfl, _, _, k1, ho1⟩
  replace h5 := ho1 5 _ (by decide) h5
  replace hl := k1.cell hl (Ne.symm e2)
  replace l1 := k1.cell l1 (Ne.symm e1)
  replace fl := (World.frozen?_of_block (a := ⟨l, 1, none⟩) (k1.block l ll (Ne.symm e1))).trans fl
  replace hb := k1.cell hb (Ne.symm e4)
  replace hd := hd.keepB k1 (Ne.symm e3)
  have z1 := k1.size
  have K1 := Lib.hid (k1.mono (T := fun k => k = cb ∨ k = l) fun _ _ h => .inl h)
  clear h4 f4 g0 g1 ho1 k1
  have HD := Lib.hid hd
  clear hd
  have hbA := cellA hb
  go_wp2_with fail
  generalize hW2 : World.alloc w1 _ = W2
  have hb2 : Below w1.heap.size w1 W2 := by rw [← hW2]; exact (Below.refl _ _).alloc (Nat.le_refl _) _
  have z2 : W2.heap.size = w1.heap.size + 1 := by rw [← hW2]; simp
  have k2 : Keeps (fun _ => False) w1 W2 := ⟨hb2.os, hb2.tape, hb2.output, hb2.size, fun i hi _ => hb2.block i hi⟩
  have d0 : W2.cell? ⟨w1.heap.size, 0, none⟩ = some (.slice (some ⟨lx, 0, none⟩) 1 cl) := by rw [← hW2]; simp [go_sem]
  have d1 : W2.cell? ⟨w1.heap.size, 1, none⟩ = some (.map (some dm)) := by rw [← hW2]; simp [go_sem]
  have df0 : W2.frozen? ⟨w1.heap.size, 0, none⟩ = false := by rw [← hW2]; simp [go_sem]
  replace fl := (hb2.frozen (p := ⟨l, 1, none⟩) (show l < w1.heap.size by omega)).trans fl
  replace h5 := k2.cell h5 id
  replace hl := k2.cell hl id
  replace l1 := k2.cell l1 id
  replace hb := k2.cell hb id
  have hd2 := HD.out.keepB k2 id
  have K2 := Lib.hid (And.intro (K1.out.trans (k2.mono (T := fun k => k = cb ∨ k = l) fun _ _ h => h.elim)) z2)
  clear hW2 K1 hb2 k2 HD z2 hbA
  refine (missing_nil w1.heap.size ao c W2).mono ?_
  rintro e w3 ⟨rfl, rfl⟩
  have HD := Lib.hid hd2
  clear hd2
  go_wp2_with fail
  go_loopg [27] 0 (fun z iv wz => iv = .int .i64 0 ∧ wz = w3)
  case atStart => exact ⟨rfl, rfl⟩
  case round =>
    obtain ⟨rfl, rfl⟩ := hrel
    go_wp2_with fail
    refine (forget_none w1.heap.size dm lx cl ao c s hs wr d0 df0 d1 hl HD.out).mono ?_
    rintro e w4 ⟨rfl, d40, d41, k4⟩
    have z2 := K2.out.2
    have lw : W.heap.size ≤ w1.heap.size := z1
    replace fl := (World.frozen?_of_block (a := ⟨l, 1, none⟩) (k4.block l (by omega) (by omega))).trans fl
    replace h5 := k4.cell h5 (by omega)
    replace l1 := k4.cell l1 (by omega)
    have z4 := k4.size
    have K4 := Lib.hid (K2.out.1.own (k4.mono (T := fun k => (k = cb ∨ k = l) ∨ W.heap.size ≤ k) fun k _ h => .inr (by omega)))
    clear d0 d1 df0 hl hb k4 K2 HD
    go_wp2_with fail
    refine (topB_one l cpl hcpl w4).mono ?_
    rintro e w5 ⟨rfl, rfl⟩
    go_upto_region 12 with (fail)
    obtain ⟨i0, hi0, hz0, hz1, hz2⟩ := info_parts infoDef
    have hnil : w5.ownsRow w5.heap.size 122 2 (.slice none 0 0) 0 [] := World.ownsRow_nil _ _ _ _
    have HNIL := Lib.hid hnil
    have l1A := cellA l1
    have HL := Lib.hid (And.intro l1 fl)
    have H5 := Lib.hid h5
    have lw5 : l < w5.heap.size := by omega
    clear hnil h5 fl
    go_region_law
      ((first
        | (refine step_append_lies _ (by rfl) _ _ _ (by rfl) w5.heap.size 122 i0 _ 2 32 Tryz.underlying75 hi0 hz0 hz1 hz2 rfl (by decide) (.slice none 0 0) 0 [] (by rfl) (by exact HNIL.out.alloc _) ⟨w5.heap.size, 0, none⟩ 1 1 [.slice (some ⟨lx, 0, none⟩) 1 cl, .map (some dm)] (by rfl) (by rfl) (World.news_of_block (cs := #[.slice (some ⟨lx, 0, none⟩) 1 cl, .map (some dm)]) (t := 122) (fr := (0, 0)) (by exact alloc_lawN w5 _)) (by simp [Value.oneCell']) (by decide) (by decide) (by decide) (by simp) (w5.heap.size + 1) (by simp) ?_; intro q cq w6 hown hgrow hat hlt2; have k6 : Keeps (fun _ => False) w5 w6 := (((Keeps.refl _ _).alloc _).drewN 1).trans ((Keeps.grownB hgrow).mono fun k _ e => by cases e); have y1 : w6.cell? ⟨l, 1, none⟩ = some (.slice none 0 0) := k6.cell HL.out.1 id; have yf : w6.frozen? ⟨l, 1, none⟩ = false := (World.frozen?_of_block (a := ⟨l, 1, none⟩) (k6.block l lw5 id)).trans HL.out.2; have HG := Lib.hid (And.intro hown (And.intro k6 hat)); clear hown hgrow hat k6)))
    all_goals
      go_wp2
      go_ret
      obtain ⟨hown, k6, hat⟩ := HG.out
      have hq := (hown.lt q rfl).1
      have c0 := hown.cellAt 0 (by simp)
      have c1 := hown.cellAt 1 (by simp)
      have kS : Keeps (fun k => k = l) w6 (w6.setCell ⟨l, 1, none⟩ (.slice (some ⟨q, 0, none⟩) 1 cq)) := (Keeps.refl (fun k => k = l) w6).setCell (p := ⟨l, 1, none⟩) rfl _
      have k7 : Keeps (fun k => k = cb ∨ k = l) W w6 := K4.out.trans (k6.mono fun _ _ h => h.elim)
      refine ⟨rfl, ⟨q, cq, by simp [go_sem, y1], kS.cell (show w6.cell? ⟨q, 0, none⟩ = some (.slice (some ⟨lx, 0, none⟩) 1 cl) by simpa using c0) (by omega), kS.cell (show w6.cell? ⟨q, 1, none⟩ = some (.map (some dm)) by simpa using c1) (by omega), by omega⟩, kS.cell (k6.cell H5.out id) e1, ?_⟩
      exact k7.setCell (p := ⟨l, 1, none⟩) (.inr rfl) _
end Tx
end Go.Proofs.YtecfknbhnhcioaaGreatDoor
