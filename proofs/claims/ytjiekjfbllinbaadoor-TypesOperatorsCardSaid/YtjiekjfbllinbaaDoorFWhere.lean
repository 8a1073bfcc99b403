/- What Where does with each error that it comes to. -/
import Derived.Test.YtjiekjfbllinbaaDoorFVisit
import Derived.LaidEqlPtr
namespace Go.Proofs.YtjiekjfbllinbaaDoor
open Go.ChangeShapes Go.WideShapes Go.ChangeAt Go.RowKit Go.Extern.Stop Go.Stop Go.Extern
namespace Fk
set_option linter.unusedVariables false
set_option linter.unusedSimpArgs false

theorem itself_at (p : Option Addr) (w : World) :
    Calls Tryd.prog 52 #[.iface 94 (.pointer p)] w fun e w' => e = .returned (.tuple #[.pointer p, .bool true]) ∧ w = w' := by
  have cA := asAA
  go_enter Tryd.func52, Tryd.ntmps52
  go_wp2
  go_ret2
  exact ⟨rfl, rfl⟩
theorem itself_kind (k : Value) (w : World) :
    Calls Tryd.prog 52 #[.iface 62 k] w fun e w' => e = .returned (.tuple #[.pointer none, .bool false]) ∧ w = w' := by
  have cK := asKA
  go_enter Tryd.func52, Tryd.ntmps52
  go_wp2
  go_ret2
  exact ⟨rfl, rfl⟩
set_option maxRecDepth 100000 in
set_option maxHeartbeats 1000000 in
theorem equal_at (a : Addr) (w : World) :
    Calls Tryd.prog 36 #[.iface 94 (.pointer (some a)), .pointer (some a)] w fun e w' => e = .returned (.bool true) ∧ w = w' := by
  obtain ⟨j, hj⟩ : ∃ j, Tryd.prog.info? 98 = some j := Option.isSome_iff_exists.1 (by kernel_rfl)
  have heq := fun w => run_eql_ptr_same (P := Tryd.prog) (w := w) a Tryd.underlying94 hj
  go_enter Tryd.func36, Tryd.ntmps36
  go_wp2_with (go_at_call 52; refine (itself_at _ _).mono ?_; rintro e w' ⟨rfl, rfl⟩)
  go_ret
  exact ⟨rfl, rfl⟩
set_option maxRecDepth 100000 in
set_option maxHeartbeats 1000000 in
theorem at_at (a : Addr) (w : World) :
    Calls Tryd.prog 34 #[.iface 94 (.pointer (some a))] w fun e w' => e = .returned (.tuple #[.pointer (some a), .bool true]) ∧ Below w.heap.size w w' := by
  have cA := asAA
  go_enter Tryd.func34, Tryd.ntmps34
  go_wp2_with (go_at_call 52; refine (itself_at _ _).mono ?_; rintro e w' ⟨rfl, rfl⟩)
  refine bodyPost_ret (v := .tuple #[.pointer (some a), .bool true]) (by simp [results, Tryd.results34, go_sem]) rfl ⟨rfl, ?_⟩
  exact (Below.refl _ _).alloc (Nat.le_refl _) _
set_option maxRecDepth 100000 in
set_option maxHeartbeats 1000000 in
theorem at_kind (k : Value) (w : World) :
    Calls Tryd.prog 34 #[.iface 62 k] w fun e w' => e = .returned (.tuple #[.pointer none, .bool false]) ∧ Below w.heap.size w w' := by
  have cK := asKA
  have aK := noAsK
  go_enter Tryd.func34, Tryd.ntmps34
  go_wp2
  refine bodyPost_ret (v := .tuple #[.pointer none, .bool false]) (by simp [results, Tryd.results34, go_sem]) rfl ⟨rfl, ?_⟩
  exact (Below.refl _ _).alloc (Nat.le_refl _) _

/-- Behind a stop nothing is left. -/
structure Stopped (w : World) (b : Nat) : Prop where
  c0 : w.cell? ⟨b, 0, none⟩ = some (.slice none 0 0)
set_option maxRecDepth 100000 in
theorem goesOn_stopped {w : World} {b : Nat} (h : Stopped w b) :
    Calls Tryd.prog 45 #[.pointer (some ⟨b, 0, none⟩)] w fun e w' => e = .returned (.bool false) ∧ w = w' := by
  have c0 := h.c0
  go_enter Tryd.func45, Tryd.ntmps45
  go_wp2
  go_ret
  exact ⟨rfl, rfl⟩
set_option maxRecDepth 100000 in
theorem stop_any {w : World} {b : Nat} {v : Value} (h : w.cell? ⟨b, 0, none⟩ = some v) (hf : w.frozen? ⟨b, 0, none⟩ = false) :
    Calls Tryd.prog 35 #[.pointer (some ⟨b, 0, none⟩)] w fun e w' => e = .returned (.tuple #[]) ∧ w' = w.setCell ⟨b, 0, none⟩ (.slice none 0 0) := by
  go_enter Tryd.func35, Tryd.ntmps35
  go_wp2
  go_end0
  exact ⟨rfl, rfl⟩

/-- The cells of the place that is found lie apart from the walk. -/
structure Place (w : World) (b r mb q : Nat) (line col : Int) : Prop where
  c0 : w.cell? ⟨q, 0, none⟩ = some (.int .i64 line)
  c1 : w.cell? ⟨q, 1, none⟩ = some (.int .i64 col)
  f0 : w.frozen? ⟨q, 0, none⟩ = false
  f1 : w.frozen? ⟨q, 1, none⟩ = false
  qb : q ≠ b
  qr : q ≠ r
  qm : q ≠ mb
theorem Place.keep {S : Nat → Prop} {w w' : World} {b r mb q : Nat} {line col : Int} (h : Place w b r mb q line col) (k : Keeps S w w') (hs : ¬ S q) : Place w' b r mb q line col :=
  ⟨k.cell h.c0 hs, k.cell h.c1 hs, (World.frozen?_of_block (k.block q (World.block_lt_of_cell? w _ h.c0) hs)).trans h.f0, (World.frozen?_of_block (k.block q (World.block_lt_of_cell? w _ h.c0) hs)).trans h.f1, h.qb, h.qr, h.qm⟩
theorem Place.set {w : World} {b r mb q : Nat} {line col : Int} (h : Place w b r mb q line col) (l c : Int) : Place ((w.setCell ⟨q, 0, none⟩ (.int .i64 l)).setCell ⟨q, 1, none⟩ (.int .i64 c)) b r mb q l c := by
  refine ⟨?_, ?_, ?_, ?_, h.qb, h.qr, h.qm⟩ <;> simp [go_sem, h.c0, h.f0, h.c1, h.f1]

set_option maxRecDepth 100000 in
set_option maxHeartbeats 1000000 in
theorem where_kind {w : World} {b r mb cap q cw : Nat} {x : Value} {ats row left : Int} (k : Value) (h : WS w b r mb cap 0 x ats row left) (hq : Place w b r mb q 0 0) (hw : w.cell? ⟨cw, 0, none⟩ = some (.pointer (some ⟨b, 0, none⟩))) :
    Calls Tryd.prog 33 #[.iface 62 k, .pointer (some ⟨cw, 0, none⟩), .pointer (some ⟨q, 0, none⟩)] w fun e w' => e = .returned (.tuple #[]) ∧ WS w' b r mb cap 0 x ats 0 left ∧ Place w' b r mb q 0 0 ∧ Keeps (three b r q) w w' := by
  have HS := Lib.hid h
  have HQ := Lib.hid hq
  clear h hq
  go_enter Tryd.func33, Tryd.ntmps33
  go_wp2_with (first
    | (go_at_call 34; refine (at_kind _ _).mono ?_; rintro e w1 ⟨rfl, hb⟩; have hk1 := Keeps.below (S := fun _ => False) hb; have hw2 := hk1.cell hw id)
    | (go_at_call 32; refine (enter_kind _ (HS.out.keep hk1 id id id)).mono ?_; rintro e w2 ⟨rfl, hws, hk⟩))
  go_end0
  exact ⟨rfl, hws, (HQ.out.keep hk1 id).keep hk (not_two HQ.out.qb HQ.out.qr), (hk1.mono fun _ _ h => h.elim).trans (two_three hk)⟩

set_option maxRecDepth 100000 in
set_option maxHeartbeats 1000000 in
theorem where_here {w : World} {b r mb cap pb po q cw : Nat} {x : Value} {ats row left : Int} (line col : Int) (h : WS w b r mb cap 0 x ats row left) (hq : Place w b r mb q 0 0) (hw : w.cell? ⟨cw, 0, none⟩ = some (.pointer (some ⟨b, 0, none⟩))) (hcq : cw ≠ q)
    (p0 : w.cell? ⟨pb, po, none⟩ = some (.int .i64 line)) (p1 : w.cell? ⟨pb, po + 1, none⟩ = some (.int .i64 col)) (p3 : w.cell? ⟨pb, po + 3, none⟩ = some (.bool false)) :
    Calls Tryd.prog 33 #[.iface 94 (.pointer (some ⟨pb, po, none⟩)), .pointer (some ⟨cw, 0, none⟩), .pointer (some ⟨q, 0, none⟩)] w fun e w' => e = .returned (.tuple #[]) ∧ Stopped w' b ∧ Place w' b r mb q line col ∧ Keeps (three b r q) w w' := by
  have HS := Lib.hid h
  have HQ := Lib.hid hq
  have qb := hq.qb
  have lq := World.block_lt_of_cell? w _ hq.c0
  simp only at lq
  clear h hq
  go_enter Tryd.func33, Tryd.ntmps33
  go_wp2_with (first
    | (go_at_call 34; refine (at_at _ _).mono ?_; rintro e w1 ⟨rfl, hb⟩; have hk1 := Keeps.below (S := fun _ => False) hb; have hw2 := hk1.cell hw id; have r0 := hk1.cell p0 id; have r1 := hk1.cell p1 id; have r3 := hk1.cell p3 id; have HP := Lib.hid (HQ.out.keep hk1 id); have q0 := HP.out.c0; have q1 := HP.out.c1; have q2 := HP.out.f0; have q3 := HP.out.f1; have b0 := (HS.out.keep hk1 id id id).c0; have b1 := (HS.out.keep hk1 id id id).fb 0)
    | (go_at_call 35; refine (stop_any (v := .slice (some ⟨r, 0, none⟩) 0 cap) ?_ ?_).mono ?_; rotate_left 2; rintro e w2 ⟨rfl, rfl⟩))
  · refine bodyPost_ret (results_none rfl _ _ _) rfl ?_
    have hbc : ((w1.setCell ⟨q, 0, none⟩ (.int .i64 line)).setCell ⟨q, 1, none⟩ (.int .i64 col)).cell? ⟨b, 0, none⟩ = some (.slice (some ⟨r, 0, none⟩) 0 cap) := by simp [go_sem, Ne.symm qb, qb, b0]
    have hbf : ((w1.setCell ⟨q, 0, none⟩ (.int .i64 line)).setCell ⟨q, 1, none⟩ (.int .i64 col)).frozen? ⟨b, 0, none⟩ = false := by simp [go_sem, Ne.symm qb, qb, b1]
    refine ⟨rfl, ⟨by simp [go_sem, hbc, hbf, Ne.symm qb, qb, b0, b1]⟩, (HP.out.set line col).keep (S := fun k => k = b) ((Keeps.refl (fun k => k = b) _).setCell (p := ⟨b, 0, none⟩) rfl _) qb, ?_⟩
    exact ((((hk1.mono fun _ _ h => h.elim).setCell (.inr (.inr rfl)) _).setCell (.inr (.inr rfl)) _).setCell (.inl rfl) _)
  · simp [go_sem, Ne.symm qb, qb, b0]
  · simp [go_sem, Ne.symm qb, qb, b1]

set_option maxRecDepth 100000 in
set_option maxHeartbeats 1000000 in
theorem where_named {w : World} {b r mb cap pb po q cw : Nat} {x : Value} {ats row left : Int} (t : TypeId) (u : Value) (h : WS w b r mb cap 0 x ats row left) (hq : Place w b r mb q 0 0) (hw : w.cell? ⟨cw, 0, none⟩ = some (.pointer (some ⟨b, 0, none⟩))) (hcb : cw ≠ b) (hcr : cw ≠ r)
    (p3 : w.cell? ⟨pb, po + 3, none⟩ = some (.bool true)) (p4 : w.cell? ⟨pb, po + 4, none⟩ = some (.iface t u)) (h0 : 0 ≤ ats) (h1 : ats ≤ 60) (hpb : pb ≠ b) :
    Calls Tryd.prog 33 #[.iface 94 (.pointer (some ⟨pb, po, none⟩)), .pointer (some ⟨cw, 0, none⟩), .pointer (some ⟨q, 0, none⟩)] w fun e w' => e = .returned (.tuple #[]) ∧ WS w' b r mb cap 1 (.iface t u) (ats + 1) 0 left ∧ Place w' b r mb q 0 0 ∧ Keeps (three b r q) w w' := by
  have HS := Lib.hid h
  have HQ := Lib.hid hq
  clear h hq
  go_enter Tryd.func33, Tryd.ntmps33
  go_wp2_with (first
    | (go_at_call 34; refine (at_at _ _).mono ?_; rintro e w1 ⟨rfl, hb⟩; have hk1 := Keeps.below (S := fun _ => False) hb; have hw2 := hk1.cell hw id; have r3 := hk1.cell p3 id; have HC := Lib.hid (hk1.cell p4 id))
    | (go_at_call 32; refine (enter_at t u (HS.out.keep hk1 id id id) HC.out h0 h1 hpb).mono ?_; rintro e w2 ⟨rfl, hws, hk⟩; have hw3 := hk.cell hw2 (not_two hcb hcr))
    | (go_at_call 36; refine (equal_at _ _).mono ?_; rintro e w' ⟨rfl, rfl⟩))
  go_end0
  exact ⟨rfl, hws, (HQ.out.keep hk1 id).keep hk (not_two HQ.out.qb HQ.out.qr), (hk1.mono fun _ _ h => h.elim).trans (two_three hk)⟩
set_option maxRecDepth 100000 in
set_option maxHeartbeats 1000000 in
theorem where_namedNil {w : World} {b r mb cap pb po q cw : Nat} {x : Value} {ats row left : Int} (h : WS w b r mb cap 0 x ats row left) (hq : Place w b r mb q 0 0) (hw : w.cell? ⟨cw, 0, none⟩ = some (.pointer (some ⟨b, 0, none⟩))) (hcb : cw ≠ b) (hcr : cw ≠ r)
    (p3 : w.cell? ⟨pb, po + 3, none⟩ = some (.bool true)) (p4 : w.cell? ⟨pb, po + 4, none⟩ = some .nilIface) (h0 : 0 ≤ ats) (h1 : ats ≤ 60) (hpb : pb ≠ b) :
    Calls Tryd.prog 33 #[.iface 94 (.pointer (some ⟨pb, po, none⟩)), .pointer (some ⟨cw, 0, none⟩), .pointer (some ⟨q, 0, none⟩)] w fun e w' => e = .returned (.tuple #[]) ∧ WS w' b r mb cap 0 x (ats + 1) 0 left ∧ Place w' b r mb q 0 0 ∧ Keeps (three b r q) w w' := by
  have HS := Lib.hid h
  have HQ := Lib.hid hq
  clear h hq
  go_enter Tryd.func33, Tryd.ntmps33
  go_wp2_with (first
    | (go_at_call 34; refine (at_at _ _).mono ?_; rintro e w1 ⟨rfl, hb⟩; have hk1 := Keeps.below (S := fun _ => False) hb; have hw2 := hk1.cell hw id; have r3 := hk1.cell p3 id; have HC := Lib.hid (hk1.cell p4 id))
    | (go_at_call 32; refine (enter_atNil (HS.out.keep hk1 id id id) HC.out h0 h1 hpb).mono ?_; rintro e w2 ⟨rfl, hws, hk⟩; have hw3 := hk.cell hw2 (not_two hcb hcr))
    | (go_at_call 36; refine (equal_at _ _).mono ?_; rintro e w' ⟨rfl, rfl⟩))
  go_end0
  exact ⟨rfl, hws, (HQ.out.keep hk1 id).keep hk (not_two HQ.out.qb HQ.out.qr), (hk1.mono fun _ _ h => h.elim).trans (two_three hk)⟩
end Fk
end Go.Proofs.YtjiekjfbllinbaaDoor
