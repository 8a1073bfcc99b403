/- Package walk: through a block of one equation, which has no arms. -/
import Derived.Test.YtecfknbhnhcioaaGreatDoorBb
namespace Go.Proofs.YtecfknbhnhcioaaGreatDoor
open Go.ChangeShapes Go.WideShapes Go.ChangeAt Go.RowKit Go.Maps
namespace Tx
set_option linter.unusedVariables false
set_option linter.unusedSimpArgs false
set_option maxRecDepth 100000 in
set_option maxHeartbeats 8000000 in
theorem block_one {P F0 : Nat → Prop} {R0 R1 R2 R3 R4 : (Nat → Prop) → World → Prop} {bb bo qb c : Nat} (ye1 : FuncId) (ye2 ye3 : Array Value) (yb1 : FuncId) (yb2 yb3 : Array Value) (ya1 : FuncId) (ya2 ya3 : Array Value) (yx1 : FuncId) (yx2 yx3 : Array Value) (yl1 : FuncId) (yl2 yl3 : Array Value) (yd1 : FuncId) (yd2 yd3 : Array Value) (W : World) (hP : ∀ k, P k → k < W.heap.size) (t0 : Stp P R0) (t1 : Stp P R1) (t2 : Stp P R2) (t3 : Stp P R3) (t4 : Stp P R4)
    (h0 : Step (.func (Fn.func ye1) ye2 ye3) (.pointer (some ⟨bb, bo, none⟩)) R0 R1) (h1 : Step (.func (Fn.func yb1) yb2 yb3) (.pointer (some ⟨qb, 0, none⟩)) R1 R2) (h2 : Step (.func (Fn.func yd1) yd2 yd3) (.pointer (some ⟨qb, 0, none⟩)) R2 R3) (h3 : Step (.func (Fn.func yl1) yl2 yl3) (.pointer (some ⟨bb, bo, none⟩)) R3 R4)
    (b1 : W.cell? ⟨bb, bo + 1, none⟩ = some (.slice (some ⟨qb, 0, none⟩) 1 c)) (q0 : W.cell? ⟨qb, 0, none⟩ = some (.int .u8 2)) (pb : P bb) (pq : P qb) (r : R0 F0 W) :
    Calls Tryz.prog 76 #[.pointer (some ⟨bb, bo, none⟩), .agg #[.func (Fn.func ye1) ye2 ye3, .func (Fn.func yb1) yb2 yb3, .func (Fn.func ya1) ya2 ya3, .func (Fn.func yx1) yx2 yx3, .func (Fn.func yl1) yl2 yl3, .func (Fn.func yd1) yd2 yd3]] W (RetNil R4 F0 W) := by
  have hw0 : IntKind.i64.wrap 0 = 0 := rfl
  have HS := Lib.hid (And.intro h0 (And.intro h1 (And.intro h2 h3)))
  have lb := hP _ pb
  have lq := hP _ pq
  clear h0 h1 h2 h3
  go_enter Tryz.func76, Tryz.ntmps76
  go_wp2_with fail
  generalize hW1 : World.alloc W _ = W1
  have hb1 : Below W.heap.size W W1 := by rw [← hW1]; exact (Below.refl _ _).alloc (Nat.le_refl _) _
  have z1 : W1.heap.size = W.heap.size + 1 := by rw [← hW1]; simp
  have k1 : Keeps (fun _ => False) W W1 := ⟨hb1.os, hb1.tape, hb1.output, hb1.size, fun i hi _ => hb1.block i hi⟩
  have s1 : W1.cell? ⟨W.heap.size, 1, none⟩ = some (.func (Fn.func yb1) yb2 yb3) := by rw [← hW1]; simp [go_sem]
  have s4 : W1.cell? ⟨W.heap.size, 4, none⟩ = some (.func (Fn.func yl1) yl2 yl3) := by rw [← hW1]; simp [go_sem]
  have s5 : W1.cell? ⟨W.heap.size, 5, none⟩ = some (.func (Fn.func yd1) yd2 yd3) := by rw [← hW1]; simp [go_sem]
  have r1 : R0 F0 W1 := t0.keep _ _ _ _ r k1 (fun _ e => e.elim)
  have hlt := t0.lt _ _ r
  have hns : ¬ F0 W.heap.size := fun e => by have := hlt _ e; omega
  replace b1 := k1.cell b1 id
  replace q0 := k1.cell q0 id
  have K1 := Lib.hid k1
  clear hW1 hb1 k1
  refine (do_block _ _ R0 R1 HS.out.1 F0 W1 r1).mono ?_
  rintro e w2 ⟨rfl, F1, r2, hk2, hn2⟩
  have nb : ¬ F0 bb := fun e => t0.dis _ _ r _ e pb
  have nq : ¬ F0 qb := fun e => t0.dis _ _ r _ e pq
  have lb2 := World.block_lt_of_cell? _ _ b1
  have hz2 := hk2.size
  have u1 := hk2.cell s1 hns
  have u4 := hk2.cell s4 hns
  have u5 := hk2.cell s5 hns
  replace b1 := hk2.cell b1 nb
  replace q0 := hk2.cell q0 nq
  have K2 := Lib.hid (And.intro (show Keeps F0 W w2 from (K1.out.mono fun _ _ h => h.elim).trans hk2) (And.intro hn2 r2))
  clear s1 s4 s5 hk2 hn2 r2 r1 r K1
  have HC := Lib.hid (And.intro u1 (And.intro u4 (And.intro u5 (And.intro b1 q0))))
  clear u1 u4 u5 b1 q0
  go_wp2_with fail
  generalize hW3 : World.alloc w2 _ = W3
  have hb3 : Below w2.heap.size w2 W3 := by rw [← hW3]; exact (Below.refl _ _).alloc (Nat.le_refl _) _
  have k3 : Keeps (fun _ => False) w2 W3 := ⟨hb3.os, hb3.tape, hb3.output, hb3.size, fun i hi _ => hb3.block i hi⟩
  have z3 : W3.heap.size = w2.heap.size + 1 := by rw [← hW3]; simp
  have hwk : Wk P F0 W R1 F1 W.heap.size w2.heap.size bb bo qb c (.func (Fn.func yb1) yb2 yb3) (.func (Fn.func yl1) yl2 yl3) (.func (Fn.func yd1) yd2 yd3) 0 none W3 := by
    obtain ⟨u1, u4, u5, b1, q0⟩ := HC.out
    obtain ⟨kk, hn2, r2⟩ := K2.out
    have hn2' : ∀ j, F1 j → F0 j ∨ W.heap.size ≤ j := fun j e => (hn2 j e).imp id (fun h => by omega)
    have hl1 := t1.lt _ _ r2
    refine ⟨k3.cell u1 id, k3.cell u4 id, k3.cell u5 id, ?_, ?_, ?_, ?_, ?_, ?_, ?_, k3.cell b1 id, k3.cell q0 id, t1.keep _ _ _ _ r2 k3 (fun _ e => e.elim), t1, ?_, ?_, ?_, ?_, pb, pq, Nat.le_refl _, by omega, by omega, kk.trans (k3.mono fun _ _ h => h.elim), hn2'⟩
    all_goals first
      | (rw [← hW3]; simp [go_sem]; done)
      | exact fun e => absurd (hP _ e) (by omega)
      | exact fun e => absurd (hl1 _ e) (by omega)
      | exact fun e => (hn2 _ e).elim hns (fun h => by omega)
  have HWK := Lib.hid hwk
  clear hwk hW3 hb3 k3 HC K2
  go_loopg [6] 3 (fun z v wz => (z = 3 ∧ v = .slice (some ⟨w2.heap.size, 0, none⟩) 1 1 ∧ ∃ F, Wk P F0 W R1 F W.heap.size w2.heap.size bb bo qb c (.func (Fn.func yb1) yb2 yb3) (.func (Fn.func yl1) yl2 yl3) (.func (Fn.func yd1) yd2 yd3) 0 none wz) ∨ (z = 2 ∧ v = .slice (some ⟨w2.heap.size, 0, none⟩) 1 1 ∧ ∃ F, Wk P F0 W R2 F W.heap.size w2.heap.size bb bo qb c (.func (Fn.func yb1) yb2 yb3) (.func (Fn.func yl1) yl2 yl3) (.func (Fn.func yd1) yd2 yd3) 1 (some ⟨qb, 0, none⟩) wz) ∨
    (z = 1 ∧ v = .slice (some ⟨w2.heap.size, 0, none⟩) 1 1 ∧ ∃ F, Wk P F0 W R3 F W.heap.size w2.heap.size bb bo qb c (.func (Fn.func yb1) yb2 yb3) (.func (Fn.func yl1) yl2 yl3) (.func (Fn.func yd1) yd2 yd3) 1 none wz) ∨ (z = 0 ∧ v = .slice (some ⟨w2.heap.size, 0, none⟩) 0 1 ∧ ∃ F, Wk P F0 W R4 F W.heap.size w2.heap.size bb bo qb c (.func (Fn.func yb1) yb2 yb3) (.func (Fn.func yl1) yl2 yl3) (.func (Fn.func yd1) yd2 yd3) 1 none wz))
  case atStart => exact .inl ⟨rfl, rfl, _, HWK.out⟩
  case round =>
    rcases hrel with ⟨hz, rfl, F, hw⟩ | ⟨hz, rfl, F, hw⟩ | ⟨hz, rfl, F, hw⟩ | ⟨hz, rfl, F, hw⟩
    · have c0 := hw.k0
      have c1 := hw.k1
      have c2 := hw.k2
      have c3 := hw.k3
      have d1 := hw.b1
      have HW := Lib.hid hw
      clear hw HWK
      go_upto_region 7 with (fail)
      go_region
      go_upto_region 13 with (fail)
      go_region
      go_wp2_with fail
      refine (onward_begin _ HW.out.drew.drew HS.out.2.1 t2).mono ?_
      rintro e w4 ⟨rfl, F4, h4⟩
      have H4 := Lib.hid h4
      clear h4 c0 c1 c2 c3 d1 HW
      go_wp2_with fail
      go_roundg 2
      case measure => omega
      case rel => exact .inr (.inl ⟨rfl, rfl, F4, H4.out⟩)
    · have c0 := hw.k0
      have c1 := hw.k1
      have c2 := hw.k2
      have c3 := hw.k3
      have d1 := hw.b1
      have d2 := hw.q0
      have HW := Lib.hid hw
      clear hw HWK
      go_upto_region 7 with (fail)
      go_cut [47] (fun v w => v = .bool false ∧ w = wr.drew)
      case first =>
        go_region_with (refine (arms_call qb wr.drew d2).mono ?_; rintro e w4 ⟨rfl, rfl⟩)
        all_goals (go_wp2; go_meet)
        all_goals exact ⟨rfl, rfl⟩
      case rest =>
        obtain ⟨rfl, rfl⟩ := hcut
        go_upto_region 13 with (fail)
        go_region
        go_wp2_with fail
        refine (onward_end _ HW.out.drew.drew HS.out.2.2.1 t3).mono ?_
        rintro e w4 ⟨rfl, F4, h4⟩
        have H4 := Lib.hid h4
        clear h4 c0 c1 c2 c3 d1 d2 HW
        go_wp2_with fail
        go_roundg 1
        case measure => omega
        case rel => exact .inr (.inr (.inl ⟨rfl, rfl, F4, H4.out⟩))
    · have c0 := hw.k0
      have c1 := hw.k1
      have c2 := hw.k2
      have c3 := hw.k3
      have d1 := hw.b1
      have HW := Lib.hid hw
      clear hw HWK
      go_upto_region 7 with (fail)
      go_region
      go_upto_region 13 with (fail)
      go_region
      go_wp2_with fail
      refine (leave_last _ 1 none HW.out.drew.drew HS.out.2.2.2 t4).mono ?_
      rintro e w4 ⟨rfl, F4, h4⟩
      have H4 := Lib.hid h4
      clear h4 c0 c1 c2 c3 d1 HW
      go_wp2_with fail
      go_roundg 0
      case measure => omega
      case rel => exact .inr (.inr (.inr ⟨rfl, rfl, F4, H4.out⟩))
    · have HW := Lib.hid hw
      clear hw HWK
      go_wp2
      go_ret
      exact ⟨rfl, F, HW.out.r, HW.out.keeps, HW.out.new⟩
end Tx
end Go.Proofs.YtecfknbhnhcioaaGreatDoor
