/- Package names: the one variable is defined. -/
import Derived.Test.YtecfknbhnhcioaaGreatDoorMg
namespace Go.Proofs.YtecfknbhnhcioaaGreatDoor
open Go.ChangeShapes Go.WideShapes Go.ChangeAt Go.RowKit Go.Maps
namespace Tx
set_option linter.unusedVariables false
set_option linter.unusedSimpArgs false
/-- A variable of type int, of which nothing else is said. -/
def varCells (s : ByteArray) : Array Value := #[.string s, .int .u8 2, .string ⟨#[]⟩, .slice none 0 0, .bool false, .int .u8 0, .int .u8 0, .int .i32 0, .string ⟨#[]⟩, .slice none 0 0, .slice none 0 0, .int .i64 0, .int .i64 0, .int .i64 0, .int .i64 0]
structure Vr (ob : Nat) (s : ByteArray) (w : World) : Prop where
  a0 : w.cell? ⟨ob, 0, none⟩ = some (.string s)
  a1 : w.cell? ⟨ob, 1, none⟩ = some (.int .u8 2)
  a2 : w.cell? ⟨ob, 2, none⟩ = some (.string ⟨#[]⟩)
  a3 : w.cell? ⟨ob, 3, none⟩ = some (.slice none 0 0)
  a4 : w.cell? ⟨ob, 4, none⟩ = some (.bool false)
  a5 : w.cell? ⟨ob, 5, none⟩ = some (.int .u8 0)
  a6 : w.cell? ⟨ob, 6, none⟩ = some (.int .u8 0)
  a7 : w.cell? ⟨ob, 7, none⟩ = some (.int .i32 0)
  a8 : w.cell? ⟨ob, 8, none⟩ = some (.string ⟨#[]⟩)
  a9 : w.cell? ⟨ob, 9, none⟩ = some (.slice none 0 0)
  a10 : w.cell? ⟨ob, 10, none⟩ = some (.slice none 0 0)
  a11 : w.cell? ⟨ob, 11, none⟩ = some (.int .i64 0)
  a12 : w.cell? ⟨ob, 12, none⟩ = some (.int .i64 0)
  a13 : w.cell? ⟨ob, 13, none⟩ = some (.int .i64 0)
  a14 : w.cell? ⟨ob, 14, none⟩ = some (.int .i64 0)
theorem Vr.keep {ob : Nat} {s : ByteArray} {S : Nat → Prop} {w w' : World} (h : Vr ob s w) (k : Keeps S w w') (hS : ¬ S ob) : Vr ob s w' :=
  ⟨k.cell h.a0 hS, k.cell h.a1 hS, k.cell h.a2 hS, k.cell h.a3 hS, k.cell h.a4 hS, k.cell h.a5 hS, k.cell h.a6 hS, k.cell h.a7 hS, k.cell h.a8 hS, k.cell h.a9 hS, k.cell h.a10 hS, k.cell h.a11 hS, k.cell h.a12 hS, k.cell h.a13 hS, k.cell h.a14 hS⟩
theorem Vr.of {ob : Nat} {s : ByteArray} {w : World} {t : TypeId} {fr : Nat × Nat} (h : w.heap[ob]? = some (.cells (varCells s) t fr)) : Vr ob s w := by
  constructor <;> (rw [cell_of_row w ob _ _ _ _ h]; rfl)
set_option maxRecDepth 100000 in
set_option maxHeartbeats 4000000 in
theorem missing_one (ob db dm c : Nat) (s : ByteArray) (hs : s.size ≤ maxLen) (W : World) (hv : Vr ob s W) (h1 : W.cell? ⟨db, 1, none⟩ = some (.map (some dm))) (hd : SetAt dm [s] W) :
    Calls Tryz.prog 50 #[.slice (some ⟨ob, 0, none⟩) 1 c, .pointer (some ⟨db, 0, none⟩)] W fun e w' => e = .returned .nilIface ∧ Below W.heap.size W w' := by
  have hw0 : IntKind.i64.wrap 0 = 0 := rfl
  have hw1 : IntKind.i64.wrap 1 = 1 := rfl
  obtain ⟨a0, a1, a2, a3, a4, a5, a6, a7, a8, a9, a10, a11, a12, a13, a14⟩ := hv
  have HD := Lib.hid hd
  clear hd
  go_enter Tryz.func50, Tryz.ntmps50
  go_wp2_with fail
  go_loopg [9] 1 (fun z iv wz => (z = 1 ∧ iv = .int .i64 0 ∧ wz = W) ∨ (z = 0 ∧ iv = .int .i64 1 ∧ Below W.heap.size W wz))
  case atStart => exact .inl ⟨rfl, rfl, rfl⟩
  case round =>
    rcases hrel with ⟨hz, rfl, rfl⟩ | ⟨hz, rfl, hb⟩
    · go_upto_region 4 with (fail)
      generalize hW1 : World.alloc wr _ = W1
      have hb1 : Below wr.heap.size wr W1 := by rw [← hW1]; exact (Below.refl _ _).alloc (Nat.le_refl _) _
      have k1 : Keeps (fun _ => False) wr W1 := ⟨hb1.os, hb1.tape, hb1.output, hb1.size, fun i hi _ => hb1.block i hi⟩
      have y0 : W1.cell? ⟨wr.heap.size, 0, none⟩ = some (.string s) := by rw [← hW1]; simp [go_sem]
      replace h1 := k1.cell h1 id
      have HB1 := Lib.hid (And.intro hb1 (HD.out.keepB k1 id))
      clear hW1 hb1 k1 a0 a1 a2 a3 a4 a5 a6 a7 a8 a9 a10 a11 a12 a13 a14
      go_region_with (refine (has_any dm [s] s hs W1.drew (show SetAt dm [s] W1.drew from HB1.out.2)).mono ?_; rintro e w1 ⟨rfl, hb⟩; rw [setHas_one]; have HB := Lib.hid (show Below wr.heap.size wr w1 from HB1.out.1.trans (by have := hb.mono HB1.out.1.size; exact ⟨this.os, this.tape, this.output, this.size, this.block⟩)); clear hb)
      all_goals
        go_wp2_with fail
        go_roundg 0
        case measure => omega
        case rel => exact .inr ⟨rfl, rfl, HB.out⟩
    · have HZ := Lib.hid hb
      clear hb
      go_wp2
      go_ret
      exact ⟨rfl, HZ.out⟩
end Tx
end Go.Proofs.YtecfknbhnhcioaaGreatDoor
