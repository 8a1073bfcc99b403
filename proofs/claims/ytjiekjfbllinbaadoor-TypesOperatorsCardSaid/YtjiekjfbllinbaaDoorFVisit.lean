/- What Kind and Where do with each error that they come to. -/
import Derived.Test.YtjiekjfbllinbaaDoorFEnter
namespace Go.Proofs.YtjiekjfbllinbaaDoor
open Go.ChangeShapes Go.WideShapes Go.ChangeAt Go.RowKit Go.Extern.Stop Go.Stop Go.Extern
namespace Fk
set_option linter.unusedVariables false
set_option linter.unusedSimpArgs false

def three (b r q : Nat) (k : Nat) : Prop := k = b ∨ k = r ∨ k = q
theorem two_three {b r q : Nat} {w w' : World} (h : Keeps (two b r) w w') : Keeps (three b r q) w w' := h.mono fun k _ hk => hk.elim .inl (fun e => .inr (.inl e))

/-- The cell of what is found lies apart from the walk. -/
structure Cell (w : World) (b r mb q : Nat) (v : Value) : Prop where
  c : w.cell? ⟨q, 0, none⟩ = some v
  f : w.frozen? ⟨q, 0, none⟩ = false
  qb : q ≠ b
  qr : q ≠ r
  qm : q ≠ mb
theorem Cell.keep {S : Nat → Prop} {w w' : World} {b r mb q : Nat} {v : Value} (h : Cell w b r mb q v) (k : Keeps S w w') (hs : ¬ S q) : Cell w' b r mb q v :=
  ⟨k.cell h.c hs, (World.frozen?_of_block (k.block q (World.block_lt_of_cell? w _ h.c) hs)).trans h.f, h.qb, h.qr, h.qm⟩
theorem Cell.set {w : World} {b r mb q : Nat} {v : Value} (h : Cell w b r mb q v) (u : Value) : Cell (w.setCell ⟨q, 0, none⟩ u) b r mb q u := by
  refine ⟨?_, ?_, h.qb, h.qr, h.qm⟩ <;> simp [go_sem, h.c, h.f]
theorem not_two {b r q : Nat} (h1 : q ≠ b) (h2 : q ≠ r) : ¬ two b r q := fun h => h.elim h1 h2

set_option maxRecDepth 100000 in
set_option maxHeartbeats 1000000 in
theorem kind_at {w : World} {b r mb cap pb po q cw : Nat} {x : Value} {ats row left : Int} (t : TypeId) (u : Value) (h : WS w b r mb cap 0 x ats row left) (hq : Cell w b r mb q (.int .i64 12)) (hw : w.cell? ⟨cw, 0, none⟩ = some (.pointer (some ⟨b, 0, none⟩))) (hcq : cw ≠ q)
    (hc : w.cell? ⟨pb, po + 4, none⟩ = some (.iface t u)) (h0 : 0 ≤ ats) (h1 : ats ≤ 60) (hpb : pb ≠ b) (hpq : pb ≠ q) :
    Calls Tryd.prog 30 #[.iface 94 (.pointer (some ⟨pb, po, none⟩)), .pointer (some ⟨q, 0, none⟩), .pointer (some ⟨cw, 0, none⟩)] w fun e w' => e = .returned (.tuple #[]) ∧ WS w' b r mb cap 1 (.iface t u) (ats + 1) 0 left ∧ Cell w' b r mb q (.int .i64 12) ∧ Keeps (three b r q) w w' := by
  have q0 := hq.c
  have q1 := hq.f
  have lq := World.block_lt_of_cell? w _ hq.c
  simp only at lq
  have HS := Lib.hid h
  have HQ := Lib.hid hq
  have HC2 := Lib.hid (show (w.setCell ⟨q, 0, none⟩ (.int .i64 12)).cell? ⟨pb, po + 4, none⟩ = _ from ((Keeps.refl (fun k => k = q) w).setCell (p := ⟨q, 0, none⟩) rfl (.int .i64 12)).cell hc hpq)
  have HS2 := Lib.hid (h.keep (S := fun k => k = q) ((Keeps.refl (fun k => k = q) w).setCell (p := ⟨q, 0, none⟩) rfl (.int .i64 12)) (Ne.symm hq.qb) (Ne.symm hq.qr) (Ne.symm hq.qm))
  clear h hq hc
  go_enter Tryd.func30, Tryd.ntmps30
  go_wp2_with (first
    | (go_at_call 31; refine (lower_at _ _).mono ?_; rintro e w' ⟨rfl, rfl⟩)
    | (go_at_call 32; refine (enter_at t u HS2.out HC2.out h0 h1 hpb).mono ?_; rintro e w1 ⟨rfl, hws, hk⟩))
  go_end0
  exact ⟨rfl, hws, (HQ.out.set _).keep hk (not_two HQ.out.qb HQ.out.qr), ((Keeps.refl _ _).setCell (.inr (.inr rfl)) _).trans (two_three hk)⟩

set_option maxRecDepth 100000 in
set_option maxHeartbeats 1000000 in
theorem kind_atNil {w : World} {b r mb cap pb po q cw : Nat} {x : Value} {ats row left : Int} (h : WS w b r mb cap 0 x ats row left) (hq : Cell w b r mb q (.int .i64 12)) (hw : w.cell? ⟨cw, 0, none⟩ = some (.pointer (some ⟨b, 0, none⟩))) (hcq : cw ≠ q)
    (hc : w.cell? ⟨pb, po + 4, none⟩ = some .nilIface) (h0 : 0 ≤ ats) (h1 : ats ≤ 60) (hpb : pb ≠ b) (hpq : pb ≠ q) :
    Calls Tryd.prog 30 #[.iface 94 (.pointer (some ⟨pb, po, none⟩)), .pointer (some ⟨q, 0, none⟩), .pointer (some ⟨cw, 0, none⟩)] w fun e w' => e = .returned (.tuple #[]) ∧ WS w' b r mb cap 0 x (ats + 1) 0 left ∧ Cell w' b r mb q (.int .i64 12) ∧ Keeps (three b r q) w w' := by
  have q0 := hq.c
  have q1 := hq.f
  have lq := World.block_lt_of_cell? w _ hq.c
  simp only at lq
  have HS := Lib.hid h
  have HQ := Lib.hid hq
  have HC2 := Lib.hid (show (w.setCell ⟨q, 0, none⟩ (.int .i64 12)).cell? ⟨pb, po + 4, none⟩ = _ from ((Keeps.refl (fun k => k = q) w).setCell (p := ⟨q, 0, none⟩) rfl (.int .i64 12)).cell hc hpq)
  have HS2 := Lib.hid (h.keep (S := fun k => k = q) ((Keeps.refl (fun k => k = q) w).setCell (p := ⟨q, 0, none⟩) rfl (.int .i64 12)) (Ne.symm hq.qb) (Ne.symm hq.qr) (Ne.symm hq.qm))
  clear h hq hc
  go_enter Tryd.func30, Tryd.ntmps30
  go_wp2_with (first
    | (go_at_call 31; refine (lower_at _ _).mono ?_; rintro e w' ⟨rfl, rfl⟩)
    | (go_at_call 32; refine (enter_atNil HS2.out HC2.out h0 h1 hpb).mono ?_; rintro e w1 ⟨rfl, hws, hk⟩))
  go_end0
  exact ⟨rfl, hws, (HQ.out.set _).keep hk (not_two HQ.out.qb HQ.out.qr), ((Keeps.refl _ _).setCell (.inr (.inr rfl)) _).trans (two_three hk)⟩

set_option maxRecDepth 100000 in
set_option maxHeartbeats 1000000 in
theorem kind_kind {w : World} {b r mb cap q cw : Nat} {x : Value} {ats row left : Int} (k : Int) (h : WS w b r mb cap 0 x ats row left) (hq : Cell w b r mb q (.int .i64 12)) (hw : w.cell? ⟨cw, 0, none⟩ = some (.pointer (some ⟨b, 0, none⟩))) (hcq : cw ≠ q) :
    Calls Tryd.prog 30 #[.iface 62 (.int .i64 k), .pointer (some ⟨q, 0, none⟩), .pointer (some ⟨cw, 0, none⟩)] w fun e w' => e = .returned (.tuple #[]) ∧ WS w' b r mb cap 0 x ats 0 left ∧ Cell w' b r mb q (.int .i64 (told k)) ∧ Keeps (three b r q) w w' := by
  have q0 := hq.c
  have q1 := hq.f
  have lq := World.block_lt_of_cell? w _ hq.c
  simp only at lq
  have HS := Lib.hid h
  have HQ := Lib.hid hq
  clear h hq
  go_enter Tryd.func30, Tryd.ntmps30
  go_wp2_with (first
    | (go_at_call 31; refine (lower_kind _ _).mono ?_; rintro e w1 ⟨rfl, hb⟩; have hk1 := Keeps.below (S := fun _ => False) hb; have q2 := hk1.cell q0 id; have q3 := (World.frozen?_of_block (hb.block q lq)).trans q1; have hw2 := hk1.cell hw id; have lq2 : q < w1.heap.size := Nat.lt_of_lt_of_le lq hb.size)
    | (go_at_call 32; refine (enter_kind _ ((HS.out.keep hk1 id id id).keep (S := fun k => k = q) ((Keeps.refl (fun k => k = q) w1).setCell (p := ⟨q, 0, none⟩) rfl (.int .i64 (told k))) (Ne.symm HQ.out.qb) (Ne.symm HQ.out.qr) (Ne.symm HQ.out.qm))).mono ?_; rintro e w2 ⟨rfl, hws, hk⟩))
  go_end0
  exact ⟨rfl, hws, ((HQ.out.keep hk1 id).set _).keep hk (not_two HQ.out.qb HQ.out.qr), ((hk1.mono fun _ _ h => h.elim).setCell (.inr (.inr rfl)) _).trans (two_three hk)⟩
end Fk
end Go.Proofs.YtjiekjfbllinbaaDoor
