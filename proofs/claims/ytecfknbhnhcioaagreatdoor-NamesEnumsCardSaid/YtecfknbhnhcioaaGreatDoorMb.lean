/- Package names: the call of a node without arguments. -/
import Derived.Test.YtecfknbhnhcioaaGreatDoorMa
namespace Go.Proofs.YtecfknbhnhcioaaGreatDoor
open Go.ChangeShapes Go.WideShapes Go.ChangeAt Go.RowKit Go.Maps
namespace Tx
set_option linter.unusedVariables false
set_option linter.unusedSimpArgs false
theorem setHas_one (s : ByteArray) : Maps.has (Sd [s]) (kl s) = true := by
  show Maps.has ((DataW.map []).put (kl s) (.agg [])) (kl s) = true
  exact Maps.has_put_same Maps.isMap_empty (show WideAt.IsKeyLit (kl s) from trivial) _
set_option maxRecDepth 100000 in
set_option maxHeartbeats 4000000 in
theorem call_none (cb nm qb : Nat) (ao : Option Addr) (c : Nat) (s : ByteArray) (hs : s.size ≤ maxLen) (W : World) (h2 : W.cell? ⟨cb, 2, none⟩ = some (.map (some nm))) (hn : SetAt nm [s] W)
    (q2 : W.cell? ⟨qb, 2, none⟩ = some (.string s)) (q3 : W.cell? ⟨qb, 3, none⟩ = some (.slice ao 0 c)) (q4 : W.cell? ⟨qb, 4, none⟩ = some (.bool false)) :
    Calls Tryz.prog 115 #[.pointer (some ⟨cb, 0, none⟩), .pointer (some ⟨qb, 0, none⟩)] W fun e w' => e = .returned .nilIface ∧ Below W.heap.size W w' := by
  have HN := Lib.hid hn
  clear hn
  go_enter Tryz.func115, Tryz.ntmps115
  have lq := World.block_lt_of_cell? _ _ q3
  go_upto_region 1 with (fail)
  go_region_with (refine (has_any nm [s] s hs W.drew (show SetAt nm [s] W.drew from HN.out)).mono ?_; rintro e w1 ⟨rfl, hb⟩; rw [setHas_one]; have x3 := (hb.cell (p := ⟨qb, 3, none⟩) lq).trans q3; have x4 := (hb.cell (p := ⟨qb, 4, none⟩) lq).trans q4; have HB := Lib.hid (show Below W.heap.size W w1 from ⟨hb.os, hb.tape, hb.output, hb.size, hb.block⟩); clear hb q2 q3 q4)
  all_goals
    go_wp2_with fail
    go_loopg [27] 0 (fun z iv wz => iv = .int .i64 0 ∧ wz = w1)
    case atStart => exact ⟨rfl, rfl⟩
    case round =>
      obtain ⟨rfl, rfl⟩ := hrel
      go_wp2
      go_ret
      exact ⟨rfl, HB.out⟩
set_option maxRecDepth 100000 in
set_option maxHeartbeats 4000000 in
theorem begin_call (cb nm vm qb g cap lb c c2 : Nat) (ao : Option Addr) (f s : ByteArray) (hf : f.size ≤ maxLen) (hs : s.size ≤ maxLen) (hcap : 1 ≤ cap) (W : World) (h2 : W.cell? ⟨cb, 2, none⟩ = some (.map (some nm))) (h3 : W.cell? ⟨cb, 3, none⟩ = some (.map (some vm))) (h4 : W.cell? ⟨cb, 4, none⟩ = some (.slice (some ⟨g, 0, none⟩) 1 cap)) (hn : SetAt nm [f] W) (hv : VarsAt vm [s] W)
    (q0 : W.cell? ⟨qb, 0, none⟩ = some (.int .u8 2)) (q1 : W.cell? ⟨qb, 1, none⟩ = some (.slice (some ⟨lb, 0, none⟩) 1 c)) (q2 : W.cell? ⟨qb, 2, none⟩ = some (.string f)) (q3 : W.cell? ⟨qb, 3, none⟩ = some (.slice ao 0 c2)) (q4 : W.cell? ⟨qb, 4, none⟩ = some (.bool false))
    (hl : W.cell? ⟨lb, 0, none⟩ = some (.string s)) (g0 : W.cell? ⟨g, 0, none⟩ = some (.slice none 0 0)) (g1 : W.cell? ⟨g, 1, none⟩ = some (.map none)) (f0 : W.frozen? ⟨g, 0, none⟩ = false) (f1 : W.frozen? ⟨g, 1, none⟩ = false) (hgc : g ≠ cb) (hgl : g ≠ lb) (hgv : g ≠ vm) (hvW : vm < W.heap.size) :
    Calls Tryz.prog 78 #[.pointer (some ⟨cb, 0, none⟩), .pointer (some ⟨qb, 0, none⟩)] W fun e w' => e = .returned .nilIface ∧ DefAt g s W.heap.size w' ∧ Keeps (fun k => k = g) W w' := by
  have HV := Lib.hid (And.intro hn hv)
  have lg := World.block_lt_of_cell? _ _ g0
  clear hn hv
  go_enter Tryz.func78, Tryz.ntmps78
  go_wp2_with fail
  refine (call_none cb nm qb ao c2 f hf W h2 HV.out.1 q2 q3 q4).mono ?_
  rintro e w1 ⟨rfl, hb⟩
  have k1 : Keeps (fun k => k = g) W w1 := Keeps.below hb
  have kF : Keeps (fun _ => False) W w1 := ⟨hb.os, hb.tape, hb.output, hb.size, fun i hi _ => hb.block i hi⟩
  have fr : ∀ o, w1.frozen? ⟨g, o, none⟩ = W.frozen? ⟨g, o, none⟩ := fun o => World.frozen?_of_block (a := ⟨g, o, none⟩) (hb.block g lg)
  have HK := Lib.hid (And.intro kF k1)
  have HD := define_one cb vm qb g cap lb c s hs hcap w1 (kF.cell h3 id) (kF.cell h4 id) (HV.out.2.keepB kF id) (kF.cell hl id) (kF.cell g0 id) (kF.cell g1 id) (by rw [fr, f0]) (by rw [fr, f1]) hgc hgl hgv (Nat.lt_of_lt_of_le hvW hb.size)
  have x1 := kF.cell q1 id
  have HDD := Lib.hid HD
  clear HD h2 h3 h4 q0 q1 q2 q3 q4 hl g0 g1 f0 f1 k1 kF fr hb
  go_wp2_with fail
  refine (HDD.out).mono ?_
  rintro e w2 ⟨rfl, hd, hk⟩
  have H2 := Lib.hid (And.intro hd hk)
  clear hd hk
  go_wp2
  go_ret
  obtain ⟨⟨lx, cl, dm, x0, x1, xl, hsd, b1, b2, b3⟩, hk⟩ := H2.out
  have := HK.out.1.size
  exact ⟨rfl, ⟨lx, cl, dm, x0, x1, xl, hsd, by omega, by omega, b3⟩, HK.out.2.trans hk⟩
set_option maxHeartbeats 1000000 in
theorem end_call (cb qb : Nat) (W : World) (q0 : W.cell? ⟨qb, 0, none⟩ = some (.int .u8 2)) : Calls Tryz.prog 82 #[.pointer (some ⟨cb, 0, none⟩), .pointer (some ⟨qb, 0, none⟩)] W fun e w' => e = .returned .nilIface ∧ w' = W := by
  go_enter Tryz.func82, Tryz.ntmps82
  go_wp2
  go_ret
  exact ⟨rfl, rfl⟩
end Tx
end Go.Proofs.YtecfknbhnhcioaaGreatDoor
