/- Package names: nothing is forgotten where a block has no variables. -/
import Derived.Test.YtecfknbhnhcioaaGreatDoorMb
namespace Go.Proofs.YtecfknbhnhcioaaGreatDoor
open Go.ChangeShapes Go.WideShapes Go.ChangeAt Go.RowKit Go.Maps
namespace Tx
set_option linter.unusedVariables false
set_option linter.unusedSimpArgs false
set_option maxRecDepth 100000 in
set_option maxHeartbeats 1000000 in
theorem forget1_one (bx db dm : Nat) (s : ByteArray) (hs : s.size ≤ maxLen) (W : World) (hx : W.cell? ⟨bx, 0, none⟩ = some (.pointer (some ⟨db, 0, none⟩))) (h1 : W.cell? ⟨db, 1, none⟩ = some (.map (some dm))) (hd : SetAt dm [s] W) :
    Calls Tryz.prog 143 #[.string s, .pointer (some ⟨bx, 0, none⟩)] W fun e w' => e = .returned (.bool false) ∧ Below W.heap.size W w' := by
  have HD := Lib.hid hd
  clear hd
  go_enter Tryz.func143, Tryz.ntmps143
  go_wp2_with fail
  refine (has_any dm [s] s hs W HD.out).mono ?_
  rintro e w1 ⟨rfl, hb⟩
  rw [setHas_one]
  have HB := Lib.hid hb
  clear hb
  go_wp2
  go_ret
  exact ⟨rfl, HB.out⟩
set_option maxRecDepth 100000 in
set_option maxHeartbeats 2000000 in
theorem indexFn_one (bx db dm lx c : Nat) (s : ByteArray) (hs : s.size ≤ maxLen) (W : World) (hx : W.cell? ⟨bx, 0, none⟩ = some (.pointer (some ⟨db, 0, none⟩))) (h1 : W.cell? ⟨db, 1, none⟩ = some (.map (some dm))) (hl : W.cell? ⟨lx, 0, none⟩ = some (.string s)) (hd : SetAt dm [s] W) :
    Calls Tryz.prog 144 #[.slice (some ⟨lx, 0, none⟩) 1 c, .func (Fn.func 143) #[] #[.pointer (some ⟨bx, 0, none⟩)]] W fun e w' => e = .returned (.int .i64 (-1)) ∧ Below W.heap.size W w' := by
  have hw0 : IntKind.i64.wrap 0 = 0 := rfl
  have hw1 : IntKind.i64.wrap 1 = 1 := rfl
  have HD := Lib.hid hd
  clear hd
  go_enter Tryz.func144, Tryz.ntmps144
  go_wp2_with fail
  go_loopg [8] 1 (fun z iv wz => (z = 1 ∧ iv = .int .i64 0 ∧ wz = W) ∨ (z = 0 ∧ iv = .int .i64 1 ∧ Below W.heap.size W wz))
  case atStart => exact .inl ⟨rfl, rfl, rfl⟩
  case round =>
    rcases hrel with ⟨hz, rfl, rfl⟩ | ⟨hz, rfl, hb⟩
    · go_wp2_with fail
      refine (forget1_one bx db dm s hs _ hx h1 HD.out).mono ?_
      rintro e w2 ⟨rfl, hb2⟩
      have HB := Lib.hid hb2
      clear hb2 hx h1 hl
      go_wp2_with fail
      go_roundg 0
      case measure => omega
      case rel => exact .inr ⟨rfl, rfl, HB.out⟩
    · have HZ := Lib.hid hb
      clear hb
      go_wp2
      go_ret
      exact ⟨rfl, HZ.out⟩
set_option maxRecDepth 100000 in
set_option maxHeartbeats 2000000 in
theorem deleteFn_one (bx db dm lx c : Nat) (s : ByteArray) (hs : s.size ≤ maxLen) (W : World) (hx : W.cell? ⟨bx, 0, none⟩ = some (.pointer (some ⟨db, 0, none⟩))) (h1 : W.cell? ⟨db, 1, none⟩ = some (.map (some dm))) (hl : W.cell? ⟨lx, 0, none⟩ = some (.string s)) (hd : SetAt dm [s] W) :
    Calls Tryz.prog 142 #[.slice (some ⟨lx, 0, none⟩) 1 c, .func (Fn.func 143) #[] #[.pointer (some ⟨bx, 0, none⟩)]] W fun e w' => e = .returned (.slice (some ⟨lx, 0, none⟩) 1 c) ∧ Below W.heap.size W w' := by
  go_enter Tryz.func142, Tryz.ntmps142
  go_wp2_with fail
  refine (indexFn_one bx db dm lx c s hs W hx h1 hl hd).mono ?_
  rintro e w1 ⟨rfl, hb⟩
  have HB := Lib.hid hb
  clear hb hd hx h1 hl
  go_wp2
  go_ret
  exact ⟨rfl, HB.out⟩
set_option maxRecDepth 100000 in
set_option maxHeartbeats 2000000 in
theorem forget_none (db dm lx cl : Nat) (ao : Option Addr) (c : Nat) (s : ByteArray) (hs : s.size ≤ maxLen) (W : World) (h0 : W.cell? ⟨db, 0, none⟩ = some (.slice (some ⟨lx, 0, none⟩) 1 cl)) (f0 : W.frozen? ⟨db, 0, none⟩ = false) (h1 : W.cell? ⟨db, 1, none⟩ = some (.map (some dm))) (hl : W.cell? ⟨lx, 0, none⟩ = some (.string s)) (hd : SetAt dm [s] W) :
    Calls Tryz.prog 120 #[.pointer (some ⟨db, 0, none⟩), .slice ao 0 c] W fun e w' => e = .returned (.tuple #[]) ∧ w'.cell? ⟨db, 0, none⟩ = some (.slice (some ⟨lx, 0, none⟩) 1 cl) ∧ w'.cell? ⟨db, 1, none⟩ = some (.map (some dm)) ∧ Keeps (fun k => k = db) W w' := by
  have lb := World.block_lt_of_cell? _ _ h0
  have HD := Lib.hid hd
  clear hd
  go_enter Tryz.func120, Tryz.ntmps120
  go_wp2_with fail
  generalize hW1 : World.alloc W _ = W1
  have hb1 : Below W.heap.size W W1 := by rw [← hW1]; exact (Below.refl _ _).alloc (Nat.le_refl _) _
  have z1 : W1.heap.size = W.heap.size + 1 := by rw [← hW1]; simp
  have kF : Keeps (fun _ => False) W W1 := ⟨hb1.os, hb1.tape, hb1.output, hb1.size, fun i hi _ => hb1.block i hi⟩
  have x0 : W1.cell? ⟨W.heap.size, 0, none⟩ = some (.pointer (some ⟨db, 0, none⟩)) := by rw [← hW1]; simp [go_sem]
  replace f0 : W1.frozen? ⟨db, 0, none⟩ = false := (World.frozen?_of_block (a := ⟨db, 0, none⟩) (hb1.block db lb)).trans f0
  replace h0 := kF.cell h0 id
  replace h1 := kF.cell h1 id
  replace hl := kF.cell hl id
  have HS := Lib.hid (And.intro kF (And.intro (HD.out.keepB kF id) z1))
  clear hW1 kF hb1 z1
  go_loopg [8] 0 (fun z iv wz => iv = .int .i64 0 ∧ wz = W1)
  case atStart => exact ⟨rfl, rfl⟩
  case round =>
    obtain ⟨rfl, rfl⟩ := hrel
    go_wp2_with fail
    have hzz := HS.out.2.2
    have lx0 : W.heap.size < wr.heap.size := by omega
    have ldb : db < wr.heap.size := by omega
    clear hzz
    go_region_with (refine (deleteFn_one W.heap.size db dm lx cl s hs wr.drew x0 h1 hl (show SetAt dm [s] wr.drew from HS.out.2.1)).mono ?_; rintro e w1 ⟨rfl, hb⟩; have y0 := (hb.cell (p := ⟨W.heap.size, 0, none⟩) lx0).trans x0; have y1 := (hb.cell (p := ⟨db, 0, none⟩) ldb).trans h0; have y2 := (hb.cell (p := ⟨db, 1, none⟩) ldb).trans h1; have yf := (hb.frozen (p := ⟨db, 0, none⟩) ldb).trans f0; have HB := Lib.hid (show Below wr.heap.size wr w1 from ⟨hb.os, hb.tape, hb.output, hb.size, hb.block⟩); clear hb)
    all_goals
      go_wp2
      go_end0
      refine ⟨rfl, by simp [go_sem, y1], by simp [go_sem, y2], ?_⟩
      have k2 : Keeps (fun k => k = db) W w1 := (HS.out.1.mono fun _ _ h => h.elim).trans (Keeps.below HB.out)
      first
        | exact (k2.setCell (p := ⟨db, 0, none⟩) rfl _).drewN 1
        | exact k2.setCell (p := ⟨db, 0, none⟩) rfl _
end Tx
end Go.Proofs.YtecfknbhnhcioaaGreatDoor
