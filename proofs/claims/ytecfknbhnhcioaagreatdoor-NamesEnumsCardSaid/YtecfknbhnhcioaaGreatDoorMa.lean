/- Package names: an equation defines the one variable there is. -/
import Derived.Test.YtecfknbhnhcioaaGreatDoorNl
namespace Go.Proofs.YtecfknbhnhcioaaGreatDoor
open Go.ChangeShapes Go.WideShapes Go.ChangeAt Go.RowKit Go.Maps
namespace Tx
set_option linter.unusedVariables false
set_option linter.unusedSimpArgs false
/-- What is defined, at db: the one variable s. -/
def DefAt (db : Nat) (s : ByteArray) (B : Nat) (w : World) : Prop := ∃ lx cl dm, w.cell? ⟨db, 0, none⟩ = some (.slice (some ⟨lx, 0, none⟩) 1 cl) ∧ w.cell? ⟨db, 1, none⟩ = some (.map (some dm)) ∧ w.cell? ⟨lx, 0, none⟩ = some (.string s) ∧ SetAt dm [s] w ∧ B ≤ lx ∧ B ≤ dm ∧ lx ≠ dm
theorem SetAt.keepB {mb : Nat} {ns : List ByteArray} {S : Nat → Prop} {w w' : World} (h : SetAt mb ns w) (k : Keeps S w w') (hm : ¬ S mb) : SetAt mb ns w' := by
  obtain ⟨es, clock, hb, r⟩ := h
  exact ⟨es, clock, (k.block mb (Array.getElem?_eq_some_iff.1 hb).1 hm).trans hb, r⟩
theorem VarsAt.keepB {mb : Nat} {ns : List ByteArray} {S : Nat → Prop} {w w' : World} (h : VarsAt mb ns w) (k : Keeps S w w') (hm : ¬ S mb) : VarsAt mb ns w' := by
  obtain ⟨es, clock, hb, r⟩ := h
  exact ⟨es, clock, (k.block mb (Array.getElem?_eq_some_iff.1 hb).1 hm).trans hb, r⟩
theorem DefAt.keep {db B : Nat} {s : ByteArray} {S : Nat → Prop} {w w' : World} (h : DefAt db s B w) (k : Keeps S w w') (hS : ∀ j, S j → j < B ∧ j ≠ db) : DefAt db s B w' := by
  obtain ⟨lx, cl, dm, x0, x1, xl, hsd, b1, b2, b3⟩ := h
  exact ⟨lx, cl, dm, k.cell x0 (fun e => (hS _ e).2 rfl), k.cell x1 (fun e => (hS _ e).2 rfl), k.cell xl (fun e => by have := (hS _ e).1; omega), hsd.keepB k (fun e => by have := (hS _ e).1; omega), b1, b2, b3⟩
theorem has_one (s : ByteArray) : Maps.has (Vd [s]) (kl s) = true := by
  show Maps.has ((DataW.map []).put (kl s) pairD) (kl s) = true
  exact Maps.has_put_same Maps.isMap_empty (show WideAt.IsKeyLit (kl s) from trivial) _
set_option maxRecDepth 100000 in
set_option maxHeartbeats 4000000 in
theorem define_one (cb vm qb g cap lb c : Nat) (s : ByteArray) (hs : s.size ≤ maxLen) (hcap : 1 ≤ cap) (W : World) (h3 : W.cell? ⟨cb, 3, none⟩ = some (.map (some vm))) (h4 : W.cell? ⟨cb, 4, none⟩ = some (.slice (some ⟨g, 0, none⟩) 1 cap)) (hv : VarsAt vm [s] W)
    (hl : W.cell? ⟨lb, 0, none⟩ = some (.string s)) (g0 : W.cell? ⟨g, 0, none⟩ = some (.slice none 0 0)) (g1 : W.cell? ⟨g, 1, none⟩ = some (.map none)) (f0 : W.frozen? ⟨g, 0, none⟩ = false) (f1 : W.frozen? ⟨g, 1, none⟩ = false) (hgc : g ≠ cb) (hgl : g ≠ lb) (hgv : g ≠ vm) (hvW : vm < W.heap.size) :
    Calls Tryz.prog 114 #[.pointer (some ⟨cb, 0, none⟩), .pointer (some ⟨qb, 0, none⟩), .slice (some ⟨lb, 0, none⟩) 1 c] W fun e w' => e = .returned .nilIface ∧ DefAt g s W.heap.size w' ∧ Keeps (fun k => k = g) W w' := by
  have hw0 : IntKind.i64.wrap 0 = 0 := rfl
  have hw1 : IntKind.i64.wrap 1 = 1 := rfl
  have HV := Lib.hid hv
  clear hv
  go_enter Tryz.func114, Tryz.ntmps114
  go_wp2_with fail
  refine (topD_one g cap hcap W).mono ?_
  rintro e w1 ⟨rfl, rfl⟩
  go_wp2_with fail
  go_loopg [19] 1 (fun z iv wz => (z = 1 ∧ iv = .int .i64 0 ∧ wz = w1) ∨ (z = 0 ∧ iv = .int .i64 1 ∧ DefAt g s w1.heap.size wz ∧ Keeps (fun k => k = g) w1 wz))
  case atStart => exact .inl ⟨rfl, rfl, rfl⟩
  case round =>
    rcases hrel with ⟨hz, rfl, rfl⟩ | ⟨hz, rfl, hd, hk⟩
    · go_wp2_with fail
      refine (defAdd_first g s hs wr g0 g1 f0 f1).mono ?_
      rintro e w2 ⟨rfl, lx, cl, dm, x0, x1, xl, hsd, b1, b2, b3, hk⟩
      have h32 := hk.cell h3 (by omega)
      have hv2 : VarsAt vm [s] w2 := World.ownsMap.kept HV.out (show wr.grownBy w2 (some g) from ⟨hk.os, hk.tape, hk.output, hk.size, fun k hk' hne => hk.block k hk' (fun e => hne (by rw [e]))⟩) (by simp; omega)
      have l0 := run_look_vars hv2 s hs
      rw [has_one] at l0
      have HD := Lib.hid (And.intro hk (show DefAt g s wr.heap.size w2 from ⟨lx, cl, dm, x0, x1, xl, hsd, b1, b2, b3⟩))
      clear h3 h4 hl g0 g1 f0 f1 hk x0 x1 xl hsd b1 b2 b3 hv2
      go_wp2_with fail
      go_roundg 0
      case measure => omega
      case rel => exact .inr ⟨rfl, rfl, HD.out.2.keep ((Keeps.refl (fun _ => False) _).alloc _) (fun _ h => h.elim), HD.out.1.alloc _⟩
    · have HZ := Lib.hid (And.intro hd hk)
      clear hd hk
      go_wp2
      go_ret
      exact ⟨rfl, HZ.out.1, HZ.out.2⟩
end Tx
end Go.Proofs.YtecfknbhnhcioaaGreatDoor
