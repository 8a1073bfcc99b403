/- Package walk: on the way through a block of one equation, which has no arms. -/
import Derived.Test.YtecfknbhnhcioaaGreatDoorBa
import Derived.Test.YtecfknbhnhcioaaGreatDoorNi
namespace Go.Proofs.YtecfknbhnhcioaaGreatDoor
open Go.ChangeShapes Go.WideShapes Go.ChangeAt Go.RowKit Go.Maps
namespace Tx
set_option linter.unusedVariables false
set_option linter.unusedSimpArgs false
/-- Where the walk is: its steps lie at sb, its place at kb; i: how many equations have been begun; q: the one that has not been ended. -/
structure Wk (P F0 : Nat → Prop) (W : World) (R : (Nat → Prop) → World → Prop) (F : Nat → Prop) (sb kb bb bo qb c : Nat) (fB fL fD : Value) (i : Int) (q : Option Addr) (w : World) : Prop where
  s1 : w.cell? ⟨sb, 1, none⟩ = some fB
  s4 : w.cell? ⟨sb, 4, none⟩ = some fL
  s5 : w.cell? ⟨sb, 5, none⟩ = some fD
  k0 : w.cell? ⟨kb, 0, none⟩ = some (.pointer (some ⟨bb, bo, none⟩))
  k1 : w.cell? ⟨kb, 1, none⟩ = some (.int .i64 i)
  k2 : w.cell? ⟨kb, 2, none⟩ = some (.pointer q)
  k3 : w.cell? ⟨kb, 3, none⟩ = some (.int .i64 0)
  f1 : w.frozen? ⟨kb, 1, none⟩ = false
  f2 : w.frozen? ⟨kb, 2, none⟩ = false
  f3 : w.frozen? ⟨kb, 3, none⟩ = false
  b1 : w.cell? ⟨bb, bo + 1, none⟩ = some (.slice (some ⟨qb, 0, none⟩) 1 c)
  q0 : w.cell? ⟨qb, 0, none⟩ = some (.int .u8 2)
  r : R F w
  st : Stp P R
  ns : ¬ F sb
  nk : ¬ F kb
  ps : ¬ P sb
  pk : ¬ P kb
  pb : P bb
  pq : P qb
  os : W.heap.size ≤ sb
  ok : W.heap.size ≤ kb
  sk : sb ≠ kb
  keeps : Keeps F0 W w
  new : ∀ j, F j → F0 j ∨ W.heap.size ≤ j
theorem Wk.step {P F0 : Nat → Prop} {W w w' : World} {R R' : (Nat → Prop) → World → Prop} {F : Nat → Prop} {sb kb bb bo qb c : Nat} {fB fL fD : Value} {i : Int} {q : Option Addr} {e : Ending} (h : Wk P F0 W R F sb kb bb bo qb c fB fL fD i q w) (hr : RetNil R' F w e w') (st' : Stp P R') :
    e = .returned .nilIface ∧ ∃ F', Wk P F0 W R' F' sb kb bb bo qb c fB fL fD i q w' := by
  obtain ⟨rfl, F', hr', hk, hn⟩ := hr
  have ls : sb < w.heap.size := World.block_lt_of_cell? _ _ h.s1
  have lk : kb < w.heap.size := World.block_lt_of_cell? _ _ h.k0
  have nb : ¬ F bb := fun e => h.st.dis _ _ h.r _ e h.pb
  have nq : ¬ F qb := fun e => h.st.dis _ _ h.r _ e h.pq
  have fr : ∀ o, w'.frozen? ⟨kb, o, none⟩ = w.frozen? ⟨kb, o, none⟩ := fun o => World.frozen?_of_block (a := ⟨kb, o, none⟩) (hk.block kb lk h.nk)
  have z := h.keeps.size
  refine ⟨rfl, F', ⟨hk.cell h.s1 h.ns, hk.cell h.s4 h.ns, hk.cell h.s5 h.ns, hk.cell h.k0 h.nk, hk.cell h.k1 h.nk, hk.cell h.k2 h.nk, hk.cell h.k3 h.nk, by rw [fr, h.f1], by rw [fr, h.f2], by rw [fr, h.f3], hk.cell h.b1 nb, hk.cell h.q0 nq, hr', st', ?_, ?_, h.ps, h.pk, h.pb, h.pq, h.os, h.ok, h.sk, ?_, ?_⟩⟩
  · intro e; rcases hn _ e with e | e
    · exact h.ns e
    · omega
  · intro e; rcases hn _ e with e | e
    · exact h.nk e
    · omega
  · exact h.keeps.trans2N hk fun j hj e => (h.new j e).resolve_right (by omega)
  · intro j e; rcases hn _ e with e | e
    · exact h.new j e
    · exact .inr (by omega)
theorem Wk.drew {P F0 : Nat → Prop} {W w : World} {R : (Nat → Prop) → World → Prop} {F : Nat → Prop} {sb kb bb bo qb c : Nat} {fB fL fD : Value} {i : Int} {q : Option Addr} (h : Wk P F0 W R F sb kb bb bo qb c fB fL fD i q w) : Wk P F0 W R F sb kb bb bo qb c fB fL fD i q w.drew :=
  ⟨h.s1, h.s4, h.s5, h.k0, h.k1, h.k2, h.k3, h.f1, h.f2, h.f3, h.b1, h.q0, h.st.keep _ (fun _ => False) _ _ h.r ((Keeps.refl _ _).drewN 1) (fun _ e => e.elim), h.st, h.ns, h.nk, h.ps, h.pk, h.pb, h.pq, h.os, h.ok, h.sk, h.keeps.drewN 1, h.new⟩
/-- Stores into the place. -/
theorem Wk.set {P F0 : Nat → Prop} {W w : World} {R : (Nat → Prop) → World → Prop} {F : Nat → Prop} {sb kb bb bo qb c : Nat} {fB fL fD : Value} {i i' : Int} {q q' : Option Addr} (h : Wk P F0 W R F sb kb bb bo qb c fB fL fD i q w) (w' : World) (hk : Keeps (fun k => k = kb) w w')
    (k0 : w'.cell? ⟨kb, 0, none⟩ = some (.pointer (some ⟨bb, bo, none⟩))) (k1 : w'.cell? ⟨kb, 1, none⟩ = some (.int .i64 i')) (k2 : w'.cell? ⟨kb, 2, none⟩ = some (.pointer q')) (k3 : w'.cell? ⟨kb, 3, none⟩ = some (.int .i64 0)) (f1 : w'.frozen? ⟨kb, 1, none⟩ = false) (f2 : w'.frozen? ⟨kb, 2, none⟩ = false) (f3 : w'.frozen? ⟨kb, 3, none⟩ = false) :
    Wk P F0 W R F sb kb bb bo qb c fB fL fD i' q' w' :=
  ⟨hk.cell h.s1 h.sk, hk.cell h.s4 h.sk, hk.cell h.s5 h.sk, k0, k1, k2, k3, f1, f2, f3, hk.cell h.b1 (fun e => h.pk (e ▸ h.pb)), hk.cell h.q0 (fun e => h.pk (e ▸ h.pq)), h.st.keep _ _ _ _ h.r hk (fun _ e => ⟨e ▸ h.nk, e ▸ h.pk⟩), h.st, h.ns, h.nk, h.ps, h.pk, h.pb, h.pq, h.os, h.ok, h.sk, h.keeps.own (hk.mono fun _ _ e => .inr (e ▸ h.ok)), h.new⟩
set_option maxHeartbeats 1000000 in
theorem arms_call (qb : Nat) (W : World) (q0 : W.cell? ⟨qb, 0, none⟩ = some (.int .u8 2)) : Calls Tryz.prog 108 #[.pointer (some ⟨qb, 0, none⟩)] W fun e w' => e = .returned (.slice none 0 0) ∧ w' = W := by
  go_enter Tryz.func108, Tryz.ntmps108
  go_wp2
  go_ret
  exact ⟨rfl, rfl⟩
section
variable {P F0 : Nat → Prop} {W0 : World} {R R' : (Nat → Prop) → World → Prop} {F : Nat → Prop} {sb kb bb bo qb c : Nat} {fB fL fD : Value} {i : Int}
set_option maxRecDepth 100000 in
set_option maxHeartbeats 2000000 in
theorem onward_end (W : World) (h : Wk P F0 W0 R F sb kb bb bo qb c fB fL fD i (some ⟨qb, 0, none⟩) W) (hs : Step fD (.pointer (some ⟨qb, 0, none⟩)) R R') (st' : Stp P R') :
    Calls Tryz.prog 110 #[.pointer (some ⟨kb, 0, none⟩), .pointer (some ⟨sb, 0, none⟩)] W fun e w' => e = .returned .nilIface ∧ ∃ F', Wk P F0 W0 R' F' sb kb bb bo qb c fB fL fD i none w' := by
  have x2 := h.k2
  have y2 := h.f2
  have x5 := h.s5
  have hsk := h.sk
  have H := Lib.hid h
  clear h
  go_enter Tryz.func110, Tryz.ntmps110
  go_wp2_with fail
  generalize hW1 : World.setCell W _ _ = W1
  have h1 : Wk P F0 W0 R F sb kb bb bo qb c fB fL fD i none W1 := by
    rw [← hW1]
    clear hW1
    obtain ⟨s1, s4, s5, k0, k1, k2, k3, f1, f2, f3, b1, q0, r, st, ns, nk, ps, pk, pb, pq, os, ok, sk, keeps, new⟩ := H.out
    refine H.out.set _ ((Keeps.refl (fun k => k = kb) W).setCell (p := ⟨kb, 2, none⟩) rfl _) ?_ ?_ ?_ ?_ ?_ ?_ ?_ <;> simp [go_sem, *]
  clear hW1 H x2 y2 x5
  refine (do_equation _ _ R R' hs F W1 h1.r).mono ?_
  rintro e w2 hr
  obtain ⟨rfl, F', h2⟩ := h1.step hr st'
  have H2 := Lib.hid h2
  clear h1 hr h2
  go_wp2
  go_ret
  exact ⟨rfl, F', H2.out⟩
set_option maxRecDepth 100000 in
set_option maxHeartbeats 2000000 in
theorem leave_last (W : World) (cap : Nat) (q : Option Addr) (h : Wk P F0 W0 R F sb kb bb bo qb c fB fL fD i q W) (hs : Step fL (.pointer (some ⟨bb, bo, none⟩)) R R') (st' : Stp P R') :
    Calls Tryz.prog 111 #[.slice (some ⟨kb, 0, none⟩) 0 cap, .pointer (some ⟨bb, bo, none⟩), .pointer (some ⟨sb, 0, none⟩)] W fun e w' => e = .returned .nilIface ∧ ∃ F', Wk P F0 W0 R' F' sb kb bb bo qb c fB fL fD i q w' := by
  have x4 := h.s4
  have H := Lib.hid h
  clear h
  go_enter Tryz.func111, Tryz.ntmps111
  go_wp2_with fail
  refine (do_block _ _ R R' hs F W H.out.r).mono ?_
  rintro e w2 hr
  obtain ⟨rfl, F', h2⟩ := H.out.step hr st'
  have H2 := Lib.hid h2
  clear hr h2
  go_wp2
  go_ret
  exact ⟨rfl, F', H2.out⟩
set_option maxRecDepth 100000 in
set_option maxHeartbeats 4000000 in
theorem onward_begin (W : World) (h : Wk P F0 W0 R F sb kb bb bo qb c fB fL fD 0 none W) (hs : Step fB (.pointer (some ⟨qb, 0, none⟩)) R R') (st' : Stp P R') :
    Calls Tryz.prog 110 #[.pointer (some ⟨kb, 0, none⟩), .pointer (some ⟨sb, 0, none⟩)] W fun e w' => e = .returned .nilIface ∧ ∃ F', Wk P F0 W0 R' F' sb kb bb bo qb c fB fL fD 1 (some ⟨qb, 0, none⟩) w' := by
  have hw0 : IntKind.i64.wrap 0 = 0 := rfl
  have x0 := h.k0
  have x1 := h.k1
  have x2 := h.k2
  have x3 := h.k3
  have y1 := h.f1
  have y2 := h.f2
  have y3 := h.f3
  have x5 := h.s1
  have z1 := h.b1
  have hsk := h.sk
  have hkb : kb ≠ bb := fun e => h.pk (e ▸ h.pb)
  have H := Lib.hid h
  clear h
  go_enter Tryz.func110, Tryz.ntmps110
  go_upto_region 5 with (fail)
  go_region
  all_goals go_upto_region 7 with (fail)
  all_goals
    generalize hW1 : World.drew (World.setCell _ _ _) = W1
    have h1 : Wk P F0 W0 R F sb kb bb bo qb c fB fL fD 1 (some ⟨qb, 0, none⟩) W1 := by
      rw [← hW1]
      clear hW1
      refine Wk.drew ?_
      obtain ⟨s1, s4, s5, k0, k1, k2, k3, f1, f2, f3, b1, q0, r, st, ns, nk, ps, pk, pb, pq, os, ok, sk, keeps, new⟩ := H.out
      refine H.out.set _ ((((Keeps.refl (fun k => k = kb) W).setCell (p := ⟨kb, 2, none⟩) rfl _).setCell (p := ⟨kb, 3, none⟩) rfl _).setCell (p := ⟨kb, 1, none⟩) rfl _) ?_ ?_ ?_ ?_ ?_ ?_ ?_ <;> simp [go_sem, *]
    clear hW1 H x0 x1 x2 x3 y1 y2 y3 x5 z1
    have x5 := h1.s1
    have x2 := h1.k2
    have H1 := Lib.hid h1
    clear h1
    go_region_with (refine (do_equation _ _ R R' hs F W1.drew H1.out.drew.r).mono ?_; rintro e w2 hr; obtain ⟨rfl, F', h2⟩ := H1.out.drew.step hr st'; have H2 := Lib.hid h2; clear hr h2)
    all_goals
      go_wp2
      go_ret
      exact ⟨rfl, F', H2.out⟩
end
end Tx
end Go.Proofs.YtecfknbhnhcioaaGreatDoor
