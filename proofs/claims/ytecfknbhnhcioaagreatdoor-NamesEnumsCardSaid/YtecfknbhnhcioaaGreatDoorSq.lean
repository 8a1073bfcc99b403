/- Package deps: the search over one thing that needs itself, and deps.Looped of it. -/
import Derived.Test.YtecfknbhnhcioaaGreatDoorNza
import Derived.BigRegion
import Derived.Deep.AppendLies
import Derived.Laws.OwnMore
namespace Go.Proofs.YtecfknbhnhcioaaGreatDoor
section
open Go.ChangeShapes Go.WideShapes Go.ChangeAt Go.RowKit Go.Maps
namespace Tx
set_option linter.unusedVariables false
set_option linter.unusedSimpArgs false
theorem infoInt1 : (Tryz.prog.info? 3).map (fun i => (i.zero, i.size, i.bytes)) = some (some (Value.int .i64 0), 1, 8) := by kernel_rfl
theorem infoStep1 : (Tryz.prog.info? 190).map (fun i => (i.zero, i.size, i.bytes)) = some (some (Value.agg #[.int .i64 0, .int .i64 0]), 2, 16) := by kernel_rfl
/-- Where a search over one thing lies: its block g; m: when things were met; l: the least met. -/
structure Sr (g m l : Nat) (nv wv yv : Value) (mt ct ls ft : Int) (w : World) : Prop where
  c0 : w.cell? ⟨g, 0, none⟩ = some nv
  c1 : w.cell? ⟨g, 1, none⟩ = some (.slice (some ⟨m, 0, none⟩) 1 1)
  c2 : w.cell? ⟨g, 2, none⟩ = some (.int .i64 ct)
  c3 : w.cell? ⟨g, 3, none⟩ = some (.slice (some ⟨l, 0, none⟩) 1 1)
  c4 : w.cell? ⟨g, 4, none⟩ = some wv
  c5 : w.cell? ⟨g, 5, none⟩ = some yv
  c6 : w.cell? ⟨g, 6, none⟩ = some (.int .i64 ft)
  cm : w.cell? ⟨m, 0, none⟩ = some (.int .i64 mt)
  cl : w.cell? ⟨l, 0, none⟩ = some (.int .i64 ls)
  f2 : w.frozen? ⟨g, 2, none⟩ = false
  f4 : w.frozen? ⟨g, 4, none⟩ = false
  f5 : w.frozen? ⟨g, 5, none⟩ = false
  f6 : w.frozen? ⟨g, 6, none⟩ = false
  fm : w.frozen? ⟨m, 0, none⟩ = false
  fl : w.frozen? ⟨l, 0, none⟩ = false
/-- The blocks of a search. -/
def Ms (g m l : Nat) : Nat → Prop := fun k => k = g ∨ k = m ∨ k = l
theorem Sr.met {g m l : Nat} {nv wv yv : Value} {mt ct ls ft a b : Int} {w : World} (h : Sr g m l nv wv yv mt ct ls ft w) (hgm : g ≠ m) (hgl : g ≠ l) (hml : m ≠ l) (c : Int) :
    Sr g m l nv wv yv a c b ft (((w.setCell ⟨g, 2, none⟩ (.int .i64 c)).setCell ⟨m, 0, none⟩ (.int .i64 a)).setCell ⟨l, 0, none⟩ (.int .i64 b)) := by
  obtain ⟨c0, c1, c2, c3, c4, c5, c6, cm, cl, f2, f4, f5, f6, fm, fl⟩ := h
  constructor <;> simp [go_sem, *, hgm.symm, hgl.symm, hml.symm]
theorem Sr.met2 {g m l : Nat} {nv wv yv : Value} {mt ct ls ft a b : Int} {w : World} (h : Sr g m l nv wv yv mt ct ls ft w) (hgm : g ≠ m) (hgl : g ≠ l) (hml : m ≠ l) (c : Int) :
    Sr g m l nv wv yv a c b ft (((w.setCell ⟨g, 2, none⟩ (.int .i64 c)).setCell ⟨l, 0, none⟩ (.int .i64 b)).setCell ⟨m, 0, none⟩ (.int .i64 a)) := by
  obtain ⟨c0, c1, c2, c3, c4, c5, c6, cm, cl, f2, f4, f5, f6, fm, fl⟩ := h
  constructor <;> simp [go_sem, *, hgm.symm, hgl.symm, hml.symm]
theorem Sr.drew {g m l : Nat} {nv wv yv : Value} {mt ct ls ft : Int} {w : World} (h : Sr g m l nv wv yv mt ct ls ft w) : Sr g m l nv wv yv mt ct ls ft w.drew := by
  obtain ⟨c0, c1, c2, c3, c4, c5, c6, cm, cl, f2, f4, f5, f6, fm, fl⟩ := h
  constructor <;> simp [go_sem, *]
theorem Sr.keep {g m l : Nat} {nv wv yv : Value} {mt ct ls ft : Int} {w w' : World} (h : Sr g m l nv wv yv mt ct ls ft w) {S : Nat → Prop} (k : Keeps S w w') (hg : ¬ S g) (hm : ¬ S m) (hl : ¬ S l) : Sr g m l nv wv yv mt ct ls ft w' := by
  obtain ⟨c0, c1, c2, c3, c4, c5, c6, cm, cl, f2, f4, f5, f6, fm, fl⟩ := h
  have lg := World.block_lt_of_cell? _ _ c0
  have lm := World.block_lt_of_cell? _ _ cm
  have ll := World.block_lt_of_cell? _ _ cl
  have fr : ∀ (b o : Nat), b < w.heap.size → ¬ S b → w.frozen? ⟨b, o, none⟩ = false → w'.frozen? ⟨b, o, none⟩ = false := fun b o hb hs hf => (World.frozen?_of_block (a := ⟨b, o, none⟩) (k.block b hb hs)).trans hf
  exact ⟨k.cell c0 hg, k.cell c1 hg, k.cell c2 hg, k.cell c3 hg, k.cell c4 hg, k.cell c5 hg, k.cell c6 hg, k.cell cm hm, k.cell cl hl, fr _ _ lg hg f2, fr _ _ lg hg f4, fr _ _ lg hg f5, fr _ _ lg hg f6, fr _ _ lm hm fm, fr _ _ ll hl fl⟩
theorem Sr.grownA {g m l : Nat} {nv wv yv : Value} {mt ct ls ft : Int} {w w' : World} (h : Sr g m l nv wv yv mt ct ls ft w) {o : Obj} (k : (w.alloc o).grownBy w' none) : Sr g m l nv wv yv mt ct ls ft w' :=
  (h.keep (S := fun _ => False) ((Keeps.refl _ _).alloc o) id id id).keep (Keeps.grownB k) (by simp) (by simp) (by simp)
theorem Sr.wait {g m l : Nat} {nv wv yv : Value} {mt ct ls ft : Int} {w : World} (h : Sr g m l nv wv yv mt ct ls ft w) (hgm : g ≠ m) (hgl : g ≠ l) (v : Value) : Sr g m l nv v yv mt ct ls ft (w.setCell ⟨g, 4, none⟩ v) := by
  obtain ⟨c0, c1, c2, c3, c4, c5, c6, cm, cl, f2, f4, f5, f6, fm, fl⟩ := h
  constructor <;> simp [go_sem, *, hgm.symm, hgl.symm]
theorem Sr.way {g m l : Nat} {nv wv yv : Value} {mt ct ls ft : Int} {w : World} (h : Sr g m l nv wv yv mt ct ls ft w) (hgm : g ≠ m) (hgl : g ≠ l) (v : Value) : Sr g m l nv wv v mt ct ls ft (w.setCell ⟨g, 5, none⟩ v) := by
  obtain ⟨c0, c1, c2, c3, c4, c5, c6, cm, cl, f2, f4, f5, f6, fm, fl⟩ := h
  constructor <;> simp [go_sem, *, hgm.symm, hgl.symm]
theorem own_aside {w w' : World} {S : Nat → Prop} {base : Nat} {e : TypeId} {size n : Nat} {v : Value} {xs : List Value} (h : w.ownsRow base e size v n xs) (hk : Keeps S w w') (hS : ∀ k, v.ownBlock = some k → ¬ S k) : w'.ownsRow base e size v n xs := by
  refine ⟨h.1, ?_⟩
  rcases h.2 with hv | ⟨g, cap, cur, hv, h1, h2, h3⟩
  · exact .inl hv
  · exact .inr ⟨g, cap, cur, hv, h1, (hk.block g (Array.getElem?_eq_some_iff.1 h2).1 (hS g (by rw [hv]; rfl))).trans h2, h3⟩
end Tx
end
section
open Go.ChangeShapes Go.WideShapes Go.ChangeAt Go.RowKit Go.Maps
namespace Tx
set_option linter.unusedVariables false
set_option linter.unusedSimpArgs false
set_option maxRecDepth 100000 in
set_option maxHeartbeats 4000000 in
theorem meet_first (g m l : Nat) (nv : Value) (ft : Int) (hgm : g ≠ m) (hgl : g ≠ l) (hml : m ≠ l) (W : World) (h : Sr g m l nv (.slice none 0 0) (.slice none 0 0) 0 0 0 ft W) :
    Calls Tryz.prog 83 #[.pointer (some ⟨g, 0, none⟩), .int .i64 0] W fun e w' => e = .returned (.tuple #[]) ∧
      ∃ q1 c1 q2 c2, Sr g m l nv (.slice (some ⟨q1, 0, none⟩) 1 c1) (.slice (some ⟨q2, 0, none⟩) 1 c2) 1 1 1 ft w' ∧ W.heap.size ≤ q1 ∧ q1 < q2 ∧ 
        w'.ownsRow W.heap.size 3 1 (.slice (some ⟨q1, 0, none⟩) 1 c1) 1 [.int .i64 0] ∧ w'.ownsRow W.heap.size 190 2 (.slice (some ⟨q2, 0, none⟩) 1 c2) 1 [.int .i64 0, .int .i64 0] ∧ Keeps (Ms g m l) W w' := by
  have HS := Lib.hid h
  have hgW := World.block_lt_of_cell? _ _ h.c0
  obtain ⟨c0, c1, c2, c3, c4, c5, c6, cm, cl, f2, f4, f5, f6, fm, fl⟩ := h
  have hmg := hgm.symm
  have hlg := hgl.symm
  have hlm := hml.symm
  go_enter Tryz.func83, Tryz.ntmps83
  go_upto_region 1 with (fail)
  go_cut [] (fun w => Sr g m l nv (.slice none 0 0) (.slice none 0 0) 1 1 1 ft w ∧ Keeps (Ms g m l) W w)
  case first =>
    go_region
    all_goals (go_wp2; go_meet)
    all_goals first
      | exact ⟨HS.out.met hgm hgl hml 1 |>.drew, ((((Keeps.refl (Ms g m l) W).setCell (p := ⟨g, 2, none⟩) (.inl rfl) _).setCell (p := ⟨m, 0, none⟩) (.inr (.inl rfl)) _).setCell (p := ⟨l, 0, none⟩) (.inr (.inr rfl)) _).drewN 1⟩
      | exact ⟨HS.out.met2 hgm hgl hml 1 |>.drew, ((((Keeps.refl (Ms g m l) W).setCell (p := ⟨g, 2, none⟩) (.inl rfl) _).setCell (p := ⟨l, 0, none⟩) (.inr (.inr rfl)) _).setCell (p := ⟨m, 0, none⟩) (.inr (.inl rfl)) _).drewN 1⟩
  case rest =>
    obtain ⟨hs, hk⟩ := hcut
    clear c0 c1 c2 c3 c4 c5 c6 cm cl f2 f4 f5 f6 fm fl
    have HS1 := Lib.hid hs
    have HK1 := Lib.hid hk
    obtain ⟨c0, c1, c2, c3, c4, c5, c6, cm, cl, f2, f4, f5, f6, fm, fl⟩ := hs
    have hg := World.block_lt_of_cell? _ _ c0
    have hm := World.block_lt_of_cell? _ _ cm
    have hl := World.block_lt_of_cell? _ _ cl
    obtain ⟨i0, hi, hz0, hz1, hz2⟩ := info_parts infoInt1
    obtain ⟨i1, hi1, hy0, hy1, hy2⟩ := info_parts infoStep1
    clear hk
    clear c0 c1 c2 c3 c5 c6 cm cl f2 f4 f5 f6 fm fl
    go_wp2_with (first
      | (at_builtin; refine wpList_append_lies _ rfl (.tmp 35) (.tmp 37) 109 rfl W.heap.size 3 i0 _ 1 8 Tryz.underlying109 hi hz0 hz1 hz2 rfl (by decide) (.slice none 0 0) 0 [] rfl (World.ownsRow_nil _ _ _ _) _ 1 1 [.int .i64 0] rfl rfl ?_ ?_ (by omega) ?_ ?_ ?_ _ rfl ?_; rotate_left 5; intro q1 cap1 w2 hown2 hgrow2 hat2 hlt2; have HS2 := Lib.hid (HS1.out.grownA hgrow2); have d4 := HS2.out.c4; have e4 := HS2.out.f4; have d5 := HS2.out.c5; have HG2 := Lib.hid (And.intro hown2 (And.intro hgrow2 hat2)); clear hown2 hgrow2 hat2 c4)
      | (at_builtin; refine wpList_append_lies _ rfl (.tmp 45) (.tmp 48) 128 rfl W.heap.size 190 i1 _ 2 16 Tryz.underlying128 hi1 hy0 hy1 hy2 rfl (by decide) (.slice none 0 0) 0 [] rfl (World.ownsRow_nil _ _ _ _) _ 1 1 [.int .i64 0, .int .i64 0] rfl rfl ?_ ?_ (by omega) ?_ ?_ ?_ _ rfl ?_; rotate_left 5; intro q2 cap2 w4 hown4 hgrow4 hat4 hlt4; have HS4 := Lib.hid ((HS2.out.wait hgm hgl _).grownA hgrow4); have x5 := HS4.out.c5; have y5 := HS4.out.f5; have HG4 := Lib.hid (And.intro hown4 (And.intro hgrow4 hat4)); clear hown4 hgrow4 hat4 d4 e4 d5)
      | fail)
    · go_end0
      obtain ⟨o2, gr2, at2⟩ := HG2.out
      obtain ⟨o4, gr4, at4⟩ := HG4.out
      have l1 := o2.lt q1 rfl
      have l2 := o4.lt q2 rfl
      simp [Value.ownBlock] at at2 at4
      have z4 := gr4.size
      have z2 := gr2.size
      simp at z4 z2
      have hk := HK1.out
      have hz := hk.size
      have hq : q1 < q2 := by omega
      have kA : Keeps (Ms g m l) W w2 := (hk.alloc _).trans ((Keeps.grownB gr2).mono fun k _ e => by cases e)
      have kB : Keeps (Ms g m l) W w4 := ((kA.setCell (p := ⟨g, 4, none⟩) (.inl rfl) _).alloc _).trans ((Keeps.grownB gr4).mono fun k _ e => by cases e)
      have kC : Keeps (fun k => k = g) w2 (w4.setCell ⟨g, 5, none⟩ (.slice (some ⟨q2, 0, none⟩) 1 cap2)) := (((((Keeps.refl (fun k => k = g) w2).setCell (p := ⟨g, 4, none⟩) rfl _).alloc _).trans ((Keeps.grownB gr4).mono fun k _ e => by cases e))).setCell (p := ⟨g, 5, none⟩) rfl _
      refine ⟨rfl, q1, cap1, q2, cap2, HS4.out.way hgm hgl _, l1.1, hq, own_aside o2 kC (fun k e => ?_), own_aside o4 ((Keeps.refl (fun k => k = g) w4).setCell (p := ⟨g, 5, none⟩) rfl _) (fun k e => ?_), kB.setCell (p := ⟨g, 5, none⟩) (.inl rfl) _⟩
      · simp [Value.ownBlock] at e
        omega
      · simp [Value.ownBlock] at e
        omega
    all_goals first
      | rfl
      | (unfold maxLen; omega)
      | (have ha := HK1.out.size; omega)
      | (have ha := HK1.out.size; have hb := HG2.out.2.1.size; simp at hb; omega)
end Tx
end
section
open Go.ChangeShapes Go.WideShapes Go.ChangeAt Go.RowKit Go.Maps
namespace Tx
set_option linter.unusedVariables false
set_option linter.unusedSimpArgs false
theorem Sr.least {g m l : Nat} {nv wv yv : Value} {mt ct ls ft b : Int} {w : World} (h : Sr g m l nv wv yv mt ct ls ft w) (hgl : g ≠ l) (hml : m ≠ l) :
    Sr g m l nv wv yv mt ct b ft (w.setCell ⟨l, 0, none⟩ (.int .i64 b)) := by
  obtain ⟨c0, c1, c2, c3, c4, c5, c6, cm, cl, f2, f4, f5, f6, fm, fl⟩ := h
  constructor <;> simp [go_sem, *, hgl.symm, hml.symm]
set_option maxRecDepth 100000 in
set_option maxHeartbeats 4000000 in
theorem follow_met (g m l : Nat) (nv wv yv : Value) (ct ft : Int) (hgm : g ≠ m) (hgl : g ≠ l) (hml : m ≠ l) (W : World) (h : Sr g m l nv wv yv 1 ct 1 ft W) :
    Calls Tryz.prog 84 #[.pointer (some ⟨g, 0, none⟩), .int .i64 0, .int .i64 0] W fun e w' => e = .returned (.tuple #[]) ∧ Sr g m l nv wv yv 1 ct 1 ft w' ∧ Keeps (Ms g m l) W w' := by
  have HS := Lib.hid h
  obtain ⟨c0, c1, c2, c3, c4, c5, c6, cm, cl, f2, f4, f5, f6, fm, fl⟩ := h
  have hmg := hgm.symm
  have hlg := hgl.symm
  have hlm := hml.symm
  go_enter Tryz.func84, Tryz.ntmps84
  go_upto_region 3 with (fail)
  go_region
  all_goals go_wp2
  all_goals go_end0
  all_goals first
    | exact ⟨rfl, HS.out.least hgl hml |>.drew, ((Keeps.refl (Ms g m l) W).setCell (p := ⟨l, 0, none⟩) (.inr (.inr rfl)) _).drewN 1⟩
    | trace_state
end Tx
end
section
open Go.ChangeShapes Go.WideShapes Go.ChangeAt Go.RowKit Go.Maps
namespace Tx
set_option linter.unusedVariables false
set_option linter.unusedSimpArgs false
set_option maxRecDepth 100000 in
set_option maxHeartbeats 1000000 in
theorem index_one (b o c : Nat) (w : World) (h : w.cell? ⟨b, o, none⟩ = some (.int .i64 0)) : Calls Tryz.prog 147 #[.slice (some ⟨b, o, none⟩) 1 c, .int .i64 0] w fun e w' => e = .returned (.int .i64 0) ∧ w' = w := by
  go_enter Tryz.func147, Tryz.ntmps147
  go_wp2
  go_loopg [8] 0 (fun g iv wr => iv = .int .i64 0 ∧ wr = w)
  case atStart => exact ⟨rfl, rfl⟩
  case round =>
    obtain ⟨rfl, rfl⟩ := hrel
    go_wp2
    go_ret
    exact ⟨rfl, rfl⟩
set_option maxRecDepth 100000 in
set_option maxHeartbeats 1000000 in
theorem contains_one (b o c : Nat) (w : World) (h : w.cell? ⟨b, o, none⟩ = some (.int .i64 0)) : Calls Tryz.prog 145 #[.slice (some ⟨b, o, none⟩) 1 c, .int .i64 0] w fun e w' => e = .returned (.bool true) ∧ w' = w := by
  go_enter Tryz.func145, Tryz.ntmps145
  go_wp2_with fail
  refine (index_one b o c w h).mono ?_
  rintro e w1 ⟨rfl, rfl⟩
  go_wp2
  go_ret
  exact ⟨rfl, rfl⟩
set_option maxRecDepth 100000 in
set_option maxHeartbeats 1000000 in
theorem min_one (b o c : Nat) (w : World) (h : w.cell? ⟨b, o, none⟩ = some (.int .i64 0)) : Calls Tryz.prog 146 #[.slice (some ⟨b, o, none⟩) 1 c] w fun e w' => e = .returned (.int .i64 0) ∧ w' = w := by
  go_enter Tryz.func146, Tryz.ntmps146
  go_wp2
  go_loopg [3, 4] 0 (fun g mv iv wr => mv = .int .i64 0 ∧ iv = .int .i64 1 ∧ wr = w)
  case atStart => exact ⟨rfl, rfl, rfl⟩
  case round =>
    obtain ⟨rfl, rfl, rfl⟩ := hrel
    go_wp2
    go_ret
    exact ⟨rfl, rfl⟩
end Tx
end
section
open Go.ChangeShapes Go.WideShapes Go.ChangeAt Go.RowKit Go.Maps
namespace Tx
set_option linter.unusedVariables false
set_option linter.unusedSimpArgs false
theorem Sr.found {g m l : Nat} {nv wv yv : Value} {mt ct ls ft b : Int} {w : World} (h : Sr g m l nv wv yv mt ct ls ft w) (hgm : g ≠ m) (hgl : g ≠ l) :
    Sr g m l nv wv yv mt ct ls b (w.setCell ⟨g, 6, none⟩ (.int .i64 b)) := by
  obtain ⟨c0, c1, c2, c3, c4, c5, c6, cm, cl, f2, f4, f5, f6, fm, fl⟩ := h
  constructor <;> simp [go_sem, *, hgm.symm, hgl.symm]
set_option maxRecDepth 100000 in
set_option maxHeartbeats 4000000 in
theorem group_one (g m l q cq nb no nc b o c : Nat) (yv : Value) (ct : Int) (hgm : g ≠ m) (hgl : g ≠ l) (hml : m ≠ l) (W : World) (h : Sr g m l (.slice (some ⟨nb, no, none⟩) 1 nc) (.slice (some ⟨q, 0, none⟩) 1 cq) yv 1 ct 1 (-1) W)
    (hcq : W.cell? ⟨q, 0, none⟩ = some (.int .i64 0)) (hq : ¬ Ms g m l q) (hqc : 1 ≤ cq)
    (hcn : W.cell? ⟨nb, no, none⟩ = some (.slice (some ⟨b, o, none⟩) 1 c)) (hn : ¬ Ms g m l nb) (hcb : W.cell? ⟨b, o, none⟩ = some (.int .i64 0)) (hb : ¬ Ms g m l b) :
    Calls Tryz.prog 125 #[.pointer (some ⟨g, 0, none⟩), .int .i64 0] W fun e w' => e = .returned (.tuple #[]) ∧ Sr g m l (.slice (some ⟨nb, no, none⟩) 1 nc) (.slice (some ⟨q, 0, none⟩) 0 cq) yv 1 ct 9223372036854775807 0 w' ∧ Keeps (Ms g m l) W w' := by
  have HS := Lib.hid h
  have HQ := Lib.hid hq
  have HN := Lib.hid hn
  have HB := Lib.hid hb
  obtain ⟨c0, c1, c2, c3, c4, c5, c6, cm, cl, f2, f4, f5, f6, fm, fl⟩ := h
  obtain ⟨q1, q2, q3⟩ : q ≠ g ∧ q ≠ m ∧ q ≠ l := by unfold Ms at hq; omega
  obtain ⟨n1, n2, n3⟩ : nb ≠ g ∧ nb ≠ m ∧ nb ≠ l := by unfold Ms at hn; omega
  obtain ⟨b1, b2, b3⟩ : b ≠ g ∧ b ≠ m ∧ b ≠ l := by unfold Ms at hb; omega
  clear hq hn hb
  have hmg := hgm.symm
  have hlg := hgl.symm
  have hlm := hml.symm
  go_enter Tryz.func125, Tryz.ntmps125
  go_wp2_with fail
  go_loopg [4] 0 (fun z iv wr => iv = .int .i64 0 ∧ wr = W)
  case atStart => exact ⟨rfl, rfl⟩
  case round =>
    obtain ⟨rfl, rfl⟩ := hrel
    go_wp2_with fail
    clear c0 c1 c2 c3 c4 c5 c6 cm cl f2 f4 f5 f6 fm fl
    obtain ⟨W2, hW2⟩ : ∃ W2, W2 = wr.setCell ⟨g, 4, none⟩ (.slice (some ⟨q, 0, none⟩) 0 cq) := ⟨_, rfl⟩
    have HS2 := Lib.hid (show Sr g m l _ (.slice (some ⟨q, 0, none⟩) 0 cq) yv 1 ct 1 (-1) W2 by rw [hW2]; exact HS.out.wait hgm hgl _)
    have hk2 : Keeps (Ms g m l) wr W2 := by rw [hW2]; exact (Keeps.refl _ _).setCell (p := ⟨g, 4, none⟩) (.inl rfl) _
    have e1 := hk2.cell hcq HQ.out
    have e2 := hk2.cell hcn HN.out
    have e3 := hk2.cell hcb HB.out
    have HK2 := Lib.hid hk2
    rw [← hW2]
    clear hcq hcn hcb hW2 hk2
    have c3 := HS2.out.c3
    have cl := HS2.out.cl
    have fl := HS2.out.fl
    go_loopg [43] 1 (fun z iv wz => (z = 1 ∧ iv = .int .i64 0 ∧ wz = W2) ∨ (z = 0 ∧ iv = .int .i64 1 ∧ wz = W2.setCell ⟨l, 0, none⟩ (.int .i64 9223372036854775807)))
    case atStart => exact .inl ⟨rfl, rfl, rfl⟩
    case round =>
      rcases hrel with ⟨hz, rfl, rfl⟩ | ⟨hz, rfl, rfl⟩
      · go_wp2_with fail
        go_roundg 0
        case measure => omega
        case rel => exact .inr ⟨rfl, by go_num, rfl⟩
      · clear c3 cl fl
        obtain ⟨W3, hW3⟩ : ∃ W3, W3 = W2.setCell ⟨l, 0, none⟩ (.int .i64 9223372036854775807) := ⟨_, rfl⟩
        have HS3 := Lib.hid (show Sr g m l _ (.slice (some ⟨q, 0, none⟩) 0 cq) yv 1 ct 9223372036854775807 (-1) W3 by rw [hW3]; exact HS2.out.least hgl hml)
        have hk3 : Keeps (Ms g m l) wr W3 := by rw [hW3]; exact HK2.out.setCell (p := ⟨l, 0, none⟩) (.inr (.inr rfl)) _
        have hk23 : Keeps (Ms g m l) W2 W3 := by rw [hW3]; exact (Keeps.refl _ _).setCell (p := ⟨l, 0, none⟩) (.inr (.inr rfl)) _
        have x1 := hk23.cell e1 HQ.out
        have x2 := hk23.cell e2 HN.out
        have x3 := hk23.cell e3 HB.out
        have HK3 := Lib.hid hk3
        rw [← hW3]
        clear hW3 hk3 hk23 e1 e2 e3
        have c0 := HS3.out.c0
        have c6 := HS3.out.c6
        have f6 := HS3.out.f6
        go_wp2_with fail
        refine (contains_one b o c W3 x3).mono ?_
        rintro e w4 ⟨rfl, rfl⟩
        go_wp2_with fail
        refine (min_one q 0 cq w4 x1).mono ?_
        rintro e w5 ⟨rfl, rfl⟩
        go_wp2
        go_end0
        exact ⟨rfl, HS3.out.found hgm hgl, HK3.out.setCell (p := ⟨g, 6, none⟩) (.inl rfl) _⟩
end Tx
end
section
open Go.ChangeShapes Go.WideShapes Go.ChangeAt Go.RowKit Go.Maps
namespace Tx
set_option linter.unusedVariables false
set_option linter.unusedSimpArgs false
set_option maxRecDepth 100000 in
set_option maxHeartbeats 4000000 in
theorem leave_one (g m l q cq p cp nb no nc b o c : Nat) (ct : Int) (hgm : g ≠ m) (hgl : g ≠ l) (hml : m ≠ l) (W : World) (h : Sr g m l (.slice (some ⟨nb, no, none⟩) 1 nc) (.slice (some ⟨q, 0, none⟩) 1 cq) (.slice (some ⟨p, 0, none⟩) 1 cp) 1 ct 1 (-1) W)
    (hcq : W.cell? ⟨q, 0, none⟩ = some (.int .i64 0)) (hq : ¬ Ms g m l q) (hqc : 1 ≤ cq) (hpc : 1 ≤ cp)
    (hcn : W.cell? ⟨nb, no, none⟩ = some (.slice (some ⟨b, o, none⟩) 1 c)) (hn : ¬ Ms g m l nb) (hcb : W.cell? ⟨b, o, none⟩ = some (.int .i64 0)) (hb : ¬ Ms g m l b) :
    Calls Tryz.prog 85 #[.pointer (some ⟨g, 0, none⟩), .int .i64 0] W fun e w' => e = .returned (.tuple #[]) ∧ Sr g m l (.slice (some ⟨nb, no, none⟩) 1 nc) (.slice (some ⟨q, 0, none⟩) 0 cq) (.slice (some ⟨p, 0, none⟩) 0 cp) 1 ct 9223372036854775807 0 w' ∧ Keeps (Ms g m l) W w' := by
  have HS := Lib.hid h
  have HQ := Lib.hid hq
  have HN := Lib.hid hn
  have HB := Lib.hid hb
  have c5 := h.c5
  have f5 := h.f5
  clear hq hn hb h
  go_enter Tryz.func85, Tryz.ntmps85
  go_upto_region 0 with (fail)
  go_cut [] (fun w => Sr g m l (.slice (some ⟨nb, no, none⟩) 1 nc) (.slice (some ⟨q, 0, none⟩) 1 cq) (.slice (some ⟨p, 0, none⟩) 0 cp) 1 ct 1 (-1) w ∧ Keeps (Ms g m l) W w)
  case first =>
    go_region
    all_goals (go_wp2; go_meet)
    all_goals first
      | exact ⟨HS.out.way hgm hgl _ |>.drew, ((Keeps.refl (Ms g m l) W).setCell (p := ⟨g, 5, none⟩) (.inl rfl) _).drewN 1⟩
      | trace_state
  case rest =>
    obtain ⟨hs, hk⟩ := hcut
    have HS1 := Lib.hid hs
    have HK1 := Lib.hid hk
    have x1 := hk.cell hcq HQ.out
    have x2 := hk.cell hcn HN.out
    have x3 := hk.cell hcb HB.out
    have c1 := hs.c1
    have c3 := hs.c3
    have cm := hs.cm
    have cl := hs.cl
    clear hs hk hcq hcn hcb c5 f5
    go_upto_region 1 with (fail)
    go_region
    all_goals go_wp2_with fail
    refine (group_one g m l q cq nb no nc b o c _ ct hgm hgl hml _ HS1.out.drew x1 HQ.out hqc x2 HN.out x3 HB.out).mono ?_
    rintro e w5 ⟨rfl, hs5, hk5⟩
    have H5 := Lib.hid (And.intro hs5 hk5)
    clear hs5 hk5 c1 c3 cm cl
    go_wp2
    go_end0
    exact ⟨rfl, H5.out.1, (HK1.out.drewN 1).trans H5.out.2⟩
end Tx
end
section
open Go.ChangeShapes Go.WideShapes Go.ChangeAt Go.RowKit Go.Maps
namespace Tx
set_option linter.unusedVariables false
set_option linter.unusedSimpArgs false
theorem row_cap {w : World} {base size q n cap : Nat} {e : TypeId} {xs : List Value} (h : w.ownsRow base e size (.slice (some ⟨q, 0, none⟩) n cap) n xs) : n ≤ cap := by
  rcases h.2 with ⟨e, _⟩ | ⟨g, cap', cur, e, _, _, h3, _⟩
  · cases e
  · cases e
    exact h3
/-- Within the search: the one need lies at b; n of its needs have been followed. -/
structure Fr (g m l q cq p cp nb no nc b o c : Nat) (H : Nat) (n : Int) (w0 w : World) : Prop where
  sr : Sr g m l (.slice (some ⟨nb, no, none⟩) 1 nc) (.slice (some ⟨q, 0, none⟩) 1 cq) (.slice (some ⟨p, 0, none⟩) 1 cp) 1 1 1 (-1) w
  cq0 : w.cell? ⟨q, 0, none⟩ = some (.int .i64 0)
  cn : w.cell? ⟨nb, no, none⟩ = some (.slice (some ⟨b, o, none⟩) 1 c)
  cb : w.cell? ⟨b, o, none⟩ = some (.int .i64 0)
  p0 : w.cell? ⟨p, 0, none⟩ = some (.int .i64 0)
  p1 : w.cell? ⟨p, 1, none⟩ = some (.int .i64 n)
  fp : w.frozen? ⟨p, 1, none⟩ = false
  kp : Keeps (fun k => Ms g m l k ∨ H ≤ k) w0 w
theorem Fr.keep {g m l q cq p cp nb no nc b o c H : Nat} {n : Int} {w0 w w' : World} (h : Fr g m l q cq p cp nb no nc b o c H n w0 w) (hq : ¬ Ms g m l q) (hp : ¬ Ms g m l p) (hn : ¬ Ms g m l nb) (hb : ¬ Ms g m l b)
    (hs : Sr g m l (.slice (some ⟨nb, no, none⟩) 1 nc) (.slice (some ⟨q, 0, none⟩) 1 cq) (.slice (some ⟨p, 0, none⟩) 1 cp) 1 1 1 (-1) w') (k : Keeps (Ms g m l) w w') : Fr g m l q cq p cp nb no nc b o c H n w0 w' :=
  ⟨hs, k.cell h.cq0 hq, k.cell h.cn hn, k.cell h.cb hb, k.cell h.p0 hp, k.cell h.p1 hp, (World.frozen?_of_block (a := ⟨p, 1, none⟩) (k.block p (World.block_lt_of_cell? _ _ h.p1) hp)).trans h.fp, h.kp.trans (k.mono fun _ _ e => .inl e)⟩
theorem Fr.next {g m l q cq p cp nb no nc b o c H : Nat} {n : Int} {w0 w : World} (h : Fr g m l q cq p cp nb no nc b o c H n w0 w) (hp : ¬ Ms g m l p) (hpq : p ≠ q) (hpn : p ≠ nb) (hpb : p ≠ b) (hH : H ≤ p) (n' : Int) : Fr g m l q cq p cp nb no nc b o c H n' w0 (w.setCell ⟨p, 1, none⟩ (.int .i64 n')) := by
  have k : Keeps (fun k => k = p) w (w.setCell ⟨p, 1, none⟩ (.int .i64 n')) := (Keeps.refl (fun k => k = p) w).setCell (p := ⟨p, 1, none⟩) rfl _
  have p0 := h.p0
  have p1 := h.p1
  have fp := h.fp
  refine ⟨h.sr.keep k (fun e => hp (.inl e.symm)) (fun e => hp (.inr (.inl e.symm))) (fun e => hp (.inr (.inr e.symm))), k.cell h.cq0 hpq.symm, k.cell h.cn hpn.symm, k.cell h.cb hpb.symm, ?_, ?_, ?_, h.kp.setCell (p := ⟨p, 1, none⟩) (.inr hH) _⟩
  · simp [go_sem, *]
  · simp [go_sem, *]
  · simp [go_sem, *]
theorem Fr.drew {g m l q cq p cp nb no nc b o c H : Nat} {n : Int} {w0 w : World} (h : Fr g m l q cq p cp nb no nc b o c H n w0 w) : Fr g m l q cq p cp nb no nc b o c H n w0 w.drew :=
  ⟨h.sr.drew, h.cq0, h.cn, h.cb, h.p0, h.p1, h.fp, h.kp.drewN 1⟩
set_option maxRecDepth 100000 in
set_option maxHeartbeats 4000000 in
theorem from_one (g m l nb no nc b o c : Nat) (hgm : g ≠ m) (hgl : g ≠ l) (hml : m ≠ l) (W : World) (h : Sr g m l (.slice (some ⟨nb, no, none⟩) 1 nc) (.slice none 0 0) (.slice none 0 0) 0 0 0 (-1) W)
    (hcn : W.cell? ⟨nb, no, none⟩ = some (.slice (some ⟨b, o, none⟩) 1 c)) (hn : ¬ Ms g m l nb) (hcb : W.cell? ⟨b, o, none⟩ = some (.int .i64 0)) (hb : ¬ Ms g m l b) :
    Calls Tryz.prog 51 #[.pointer (some ⟨g, 0, none⟩), .int .i64 0] W fun e w' => e = .returned (.tuple #[]) ∧ (∃ wv yv, Sr g m l (.slice (some ⟨nb, no, none⟩) 1 nc) wv yv 1 1 9223372036854775807 0 w') ∧ Keeps (Ms g m l) W w' := by
  have HN := Lib.hid hn
  have HB := Lib.hid hb
  have lg := World.block_lt_of_cell? _ _ h.c0
  have lm := World.block_lt_of_cell? _ _ h.cm
  have ll := World.block_lt_of_cell? _ _ h.cl
  have ln := World.block_lt_of_cell? _ _ hcn
  have lb := World.block_lt_of_cell? _ _ hcb
  have HS := Lib.hid h
  clear h hn hb
  go_enter Tryz.func51, Tryz.ntmps51
  go_wp2_with fail
  refine (meet_first g m l _ (-1) hgm hgl hml W HS.out).mono ?_
  rintro e w1 ⟨rfl, q, cq, p, cp, hs1, hqW, hqp, ho1, ho2, hk1⟩
  have hq : ¬ Ms g m l q := by unfold Ms; omega
  have hp : ¬ Ms g m l p := by unfold Ms; omega
  have hqc : 1 ≤ cq := row_cap ho1
  have hpc : 1 ≤ cp := row_cap ho2
  have hF : Fr g m l q cq p cp nb no nc b o c W.heap.size 0 W w1 := ⟨hs1, by simpa using ho1.cellAt 0 (by omega), hk1.cell hcn HN.out, hk1.cell hcb HB.out, by simpa using ho2.cellAt 0 (by omega), by simpa using ho2.cellAt 1 (by omega), ho2.frozenAt 1, hk1.mono fun _ _ e => .inl e⟩
  have HF := Lib.hid hF
  have HQ := Lib.hid hq
  have HP := Lib.hid hp
  have e1 : p ≠ nb := by omega
  have e2 : p ≠ b := by omega
  have e3 : p ≠ q := by omega
  have e4 : W.heap.size ≤ p := by omega
  have HE := Lib.hid (And.intro e1 (And.intro e2 (And.intro e3 e4)))
  clear hs1 ho1 ho2 hk1 hF hq hp hcn hcb lg lm ll ln lb e1 e2 e3 e4
  go_wp2_with fail
  go_loopg [] 2 (fun z wz => (z = 2 ∧ Fr g m l q cq p cp nb no nc b o c W.heap.size 0 W wz) ∨ (z = 1 ∧ Fr g m l q cq p cp nb no nc b o c W.heap.size 1 W wz) ∨
    (z = 0 ∧ Sr g m l (.slice (some ⟨nb, no, none⟩) 1 nc) (.slice (some ⟨q, 0, none⟩) 0 cq) (.slice (some ⟨p, 0, none⟩) 0 cp) 1 1 9223372036854775807 0 wz ∧ Keeps (Ms g m l) W wz))
  case atStart => exact .inl ⟨rfl, HF.out⟩
  case round =>
    rcases hrel with ⟨hz, hf⟩ | ⟨hz, hf⟩ | ⟨hz, hs, hk⟩
    · have c0 := hf.sr.c0
      have c5 := hf.sr.c5
      have x1 := hf.cn
      have x2 := hf.cb
      have x3 := hf.p0
      have x4 := hf.p1
      have x5 := hf.fp
      have HZ := Lib.hid hf
      clear hf
      go_upto_region 2 with (fail)
      go_region
      go_upto_region 3 with (fail)
      go_region
      go_upto_region 4 with (fail)
      go_region
      go_wp2_with fail
      have HZ2 := Lib.hid (((HZ.out.next HP.out HE.out.2.2.1 HE.out.1 HE.out.2.1 HE.out.2.2.2 1).drew).drew).drew
      refine (follow_met g m l _ _ _ 1 (-1) hgm hgl hml _ HZ2.out.sr).mono ?_
      rintro e w5 ⟨rfl, hs5, hk5⟩
      have H5 := Lib.hid (HZ2.out.keep HQ.out HP.out HN.out HB.out hs5 hk5)
      clear hs5 hk5 c0 c5 x1 x2 x3 x4 x5
      go_wp2_with fail
      go_roundg 1
      case measure => omega
      case rel => exact .inr (.inl ⟨rfl, H5.out⟩)
    · have c0 := hf.sr.c0
      have c5 := hf.sr.c5
      have x1 := hf.cn
      have x2 := hf.cb
      have x3 := hf.p0
      have x4 := hf.p1
      have x5 := hf.fp
      have HZ := Lib.hid hf
      clear hf
      go_upto_region 2 with (fail)
      go_region
      go_upto_region 3 with (fail)
      go_region
      go_wp2_with fail
      refine (leave_one g m l q cq p cp nb no nc b o c 1 hgm hgl hml _ HZ.out.sr.drew.drew HZ.out.cq0 HQ.out hqc hpc x1 HN.out x2 HB.out).mono ?_
      rintro e w5 ⟨rfl, hs5, hk5⟩
      have H5 := Lib.hid hs5
      have K5 := Lib.hid (show Keeps (Ms g m l) W w5 from (((HZ.out.kp.drewN 1).drewN 1).trans (hk5.mono fun _ _ e => .inl e)).mono fun k hk e => e.resolve_right (by omega))
      clear hs5 hk5 c0 c5 x1 x2 x3 x4 x5
      go_wp2_with fail
      go_roundg 0
      case measure => omega
      case rel => exact .inr (.inr ⟨rfl, H5.out, K5.out⟩)
    · have c5 := hs.c5
      have HZ := Lib.hid (And.intro hs hk)
      clear hs hk
      go_wp2
      go_end0
      exact ⟨rfl, ⟨_, _, HZ.out.1⟩, HZ.out.2⟩
end Tx
end
section
open Go.ChangeShapes Go.WideShapes Go.ChangeAt Go.RowKit Go.Maps
namespace Tx
set_option linter.unusedVariables false
set_option linter.unusedSimpArgs false
theorem mk1_ints (w : World) : (Instr.makeSlice 109 (.int .i64 1) (.int .i64 1)).run Tryz.prog w = .ok (.slice (some ⟨w.heap.size, 0, none⟩) 1 1) (w.alloc (.cells #[.int .i64 0] 3)) := by kernel_rfl
set_option maxRecDepth 100000 in
set_option maxHeartbeats 4000000 in
theorem looped_one (nb no nc b o c : Nat) (W : World) (hcn : W.cell? ⟨nb, no, none⟩ = some (.slice (some ⟨b, o, none⟩) 1 c)) (hcb : W.cell? ⟨b, o, none⟩ = some (.int .i64 0)) :
    Calls Tryz.prog 26 #[.slice (some ⟨nb, no, none⟩) 1 nc] W fun e w' => e = .returned (.int .i64 0) ∧ Below W.heap.size W w' := by
  have hmk := mk1_ints
  have HBel := Lib.hid (show ∀ o1 o2 o3, Below W.heap.size W (((W.alloc o1).alloc o2).alloc o3).drew from fun o1 o2 o3 => ((((Below.refl _ _).alloc (Nat.le_refl _) _).alloc (by simp) _).alloc (by simp; omega) _).drew)
  have ln := World.block_lt_of_cell? _ _ hcn
  have lb := World.block_lt_of_cell? _ _ hcb
  go_enter Tryz.func26, Tryz.ntmps26
  go_upto_region 1 with (fail)
  go_cut [3] (fun v w => ∃ g m l : Nat, v = .pointer (some ⟨g, 0, none⟩) ∧ g ≠ m ∧ g ≠ l ∧ m ≠ l ∧ W.heap.size ≤ g ∧ W.heap.size ≤ m ∧ W.heap.size ≤ l ∧ Sr g m l (.slice (some ⟨nb, no, none⟩) 1 nc) (.slice none 0 0) (.slice none 0 0) 0 0 0 (-1) w ∧ Below W.heap.size W w)
  case first =>
    go_region
    all_goals (go_wp2; go_meet)
    all_goals first
      | (refine ⟨_, W.heap.size, (W.heap.size + 1), rfl, by omega, by omega, by omega, by omega, by omega, by omega, ?_, HBel.out _ _ _⟩; constructor <;> simp [go_sem] <;> done)
      | (refine ⟨_, W.heap.size, (W.heap.size + 1 + 1), rfl, by omega, by omega, by omega, by omega, by omega, by omega, ?_, HBel.out _ _ _⟩; constructor <;> simp [go_sem] <;> done)
      | (refine ⟨_, (W.heap.size + 1), W.heap.size, rfl, by omega, by omega, by omega, by omega, by omega, by omega, ?_, HBel.out _ _ _⟩; constructor <;> simp [go_sem] <;> done)
      | (refine ⟨_, (W.heap.size + 1), (W.heap.size + 1 + 1), rfl, by omega, by omega, by omega, by omega, by omega, by omega, ?_, HBel.out _ _ _⟩; constructor <;> simp [go_sem] <;> done)
      | (refine ⟨_, (W.heap.size + 1 + 1), W.heap.size, rfl, by omega, by omega, by omega, by omega, by omega, by omega, ?_, HBel.out _ _ _⟩; constructor <;> simp [go_sem] <;> done)
      | (refine ⟨_, (W.heap.size + 1 + 1), (W.heap.size + 1), rfl, by omega, by omega, by omega, by omega, by omega, by omega, ?_, HBel.out _ _ _⟩; constructor <;> simp [go_sem] <;> done)
      | trace_state
  case rest =>
    obtain ⟨g, m, l, rfl, hgm, hgl, hml, ag, am, al, hs, hbl⟩ := hcut
    have x1 := hbl.cell (p := ⟨nb, no, none⟩) ln |>.trans hcn
    have x2 := hbl.cell (p := ⟨b, o, none⟩) lb |>.trans hcb
    have hn : ¬ Ms g m l nb := by unfold Ms; simp only at ln; omega
    have hb : ¬ Ms g m l b := by unfold Ms; simp only at lb; omega
    have c1 := hs.c1
    have cm := hs.cm
    have HS := Lib.hid hs
    have HB := Lib.hid (And.intro hbl (And.intro hn hb))
    clear hs hbl hn hb hmk hcn hcb
    go_wp2_with fail
    go_loopg [15] 1 (fun z iv wz => (z = 1 ∧ iv = .int .i64 0 ∧ wz = wc) ∨ (z = 0 ∧ iv = .int .i64 1 ∧ (∃ wv yv, Sr g m l (.slice (some ⟨nb, no, none⟩) 1 nc) wv yv 1 1 9223372036854775807 0 wz) ∧ Keeps (Ms g m l) wc wz))
    case atStart => exact .inl ⟨rfl, rfl, rfl⟩
    case round =>
      rcases hrel with ⟨hz, rfl, rfl⟩ | ⟨hz, rfl, ⟨wv, yv, hs⟩, hk⟩
      · go_wp2_with fail
        refine (from_one g m l nb no nc b o c hgm hgl hml _ HS.out x1 HB.out.2.1 x2 HB.out.2.2).mono ?_
        rintro e w5 ⟨rfl, hs5, hk5⟩
        have H5 := Lib.hid (And.intro hs5 hk5)
        clear hs5 hk5 c1 cm x1 x2
        go_wp2_with fail
        go_roundg 0
        case measure => omega
        case rel => exact .inr ⟨rfl, by go_num, H5.out.1, H5.out.2⟩
      · have c6 := hs.c6
        have H5 := Lib.hid hk
        clear hs hk c1 cm x1 x2
        go_wp2
        go_ret
        refine ⟨rfl, HB.out.1.trans ⟨H5.out.os, H5.out.tape, H5.out.output, ?_, fun k hk => H5.out.block k (by have := HB.out.1.size; omega) (by unfold Ms; omega)⟩⟩
        have := HB.out.1.size
        have := H5.out.size
        omega
end Tx
end
end Go.Proofs.YtecfknbhnhcioaaGreatDoor
