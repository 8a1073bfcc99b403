/-
  TreeValues returns true. No condition.
-/
import Derived.Test.YtggoejghnlgigaaTop
import Derived.WalkKit
import Derived.ProofKit
import Derived.OpenShut
import Derived.ShutString
import Derived.ChangeOld
import Derived.Below
import Derived.SliceStrings
import Derived.Lib.SmallJoins
import Derived.Lib.Hide
namespace Go.Proofs.Ytggoejghnlgigaa.treeValues
open Go.ChangeShapes Go.WideShapes Go.ChangeAt Go.RowKit
open Go.ChangeMaps (open_string shut_string)
open Go.Joins
set_option linter.unusedVariables false

theorem own : ownKnob Try.prog.godebug = none := by kernel_rfl
theorem laidOut : laidOutB Try.prog = true := by kernel_rfl

open Tx
theorem bt {n : Nat} {w W1 w2 : World} (hn : n = w.heap.size) (a : Below n w W1) (b : Below W1.heap.size W1 w2) : Below n w w2 := a.trans (b.mono (by subst hn; exact a.size))
/-- A block, and one that is made behind it. -/
theorem made {n : Nat} {w w4 A : World} {o : Obj} (h : w4.alloc o = A) (B : Below n w w4) (z : n < w4.heap.size) : Below n w A ∧ A.heap.size = w4.heap.size + 1 ∧ A.heap[w4.heap.size]? = some o ∧ ∀ (b : Nat) (x : Obj), w4.heap[b]? = some x → A.heap[b]? = some x := by
  subst h
  refine ⟨B.alloc (Nat.le_of_lt z) _, by simp, alloc_at w4 _, fun b x hx => ?_⟩
  have hb : b < w4.heap.size := (Array.getElem?_eq_some_iff.1 hx).1
  exact (((Below.refl w4.heap.size w4).alloc (Nat.le_refl _) o).block b hb).trans hx
theorem stays {w w2 : World} (hb : Below w.heap.size w w2) {b : Nat} {x : Obj} (h : w.heap[b]? = some x) : w2.heap[b]? = some x := (hb.block b (Array.getElem?_eq_some_iff.1 h).1).trans h
def dB (n : Int) : Dt := ⟨2, 0, n, ⟨#[]⟩, by decide, [], 0, 0⟩
theorem isC_true {d : Dt} (h : isC d = true) : (d.k == 1) = true ∨ ((d.k == 1) = false ∧ (d.k == 2) = true) := by
  unfold isC at h
  cases h1 : (d.k == 1) <;> simp_all
theorem isC_false {d : Dt} (h : isC d = false) : (d.k == 1) = false ∧ (d.k == 2) = false := by
  unfold isC at h
  simpa using h

set_option maxHeartbeats 8000000 in
set_option maxRecDepth 100000 in
theorem walk (d0_ : Tx.Dt) (ks0 : Tx.Fo) (nv0 kv0 : Value) (a1 : Int) (a2 : Bool) (a3 : ByteArray) (w : World) (wd0 : Tx.WfD d0_) (hn0 : Tx.NamesIn (fun k => k < w.heap.size) w nv0 d0_.ns) (hk0 : Tx.KidsIn (fun k => k < w.heap.size) w kv0 ks0) (w1 : (Lit.int .i32 a1).wf = true) (w3 : a3.size ≤ maxLen) :
    Calls Try.prog 5 #[Tx.exV d0_ nv0 kv0, .int .i32 a1, .bool a2, .string a3] w fun e w' => e = .returned (.bool true) ∧ Below w.heap.size w w' := by
  have HN := Lib.hid hn0
  have HK := Lib.hid hk0
  clear hn0 hk0
  have HWF := Lib.hid wd0
  clear wd0
  unfold Tx.exV
  go_enter Try.func5, Try.ntmps5
  go_wp2_with fail
  generalize hW1 : w.alloc _ = W1
  have b1 : Below w.heap.size w W1 := by rw [← hW1]; exact (Below.refl _ _).alloc (Nat.le_refl _) _
  have z1 : W1.heap.size = w.heap.size + 1 := by rw [← hW1]; simp
  have g1 : W1.heap[w.heap.size]? = _ := (congrArg (fun W : World => W.heap[w.heap.size]?) hW1).symm.trans (alloc_at w _)
  clear hW1
  have hn1 := HN.out.keep (w' := W1) (fun b o v hb hc => (b1.cell (p := ⟨b, o, none⟩) hb).trans hc)
  have hk1 := HK.out.keep (w' := W1) (fun b o v hb hc => (b1.cell (p := ⟨b, o, none⟩) hb).trans hc)
  refine (great_any (fun k => k < w.heap.size) W1 (fun k hk => by omega) d0_ ks0 nv0 kv0 hn1 hk1 1000).mono ?_
  rintro e w2 ⟨r, rfl, hb2⟩
  have g2 : w2.heap[w.heap.size]? = _ := (hb2.block _ (by omega)).trans g1
  have B2 := bt rfl b1 hb2
  have z2 : w.heap.size < w2.heap.size := by have := hb2.size; omega
  clear hn1 hk1 g1 hb2 b1 z1
  cases r
  · obtain ⟨x0, x1, x2, x3, x4, x5, x6, x7⟩ := cells8 g2
    go_wp2_with fail
    clear x0 x1 x2 x3 x4 x5 x6 x7
    refine (value_nil d0_ nv0 kv0 w2).mono ?_
    rintro e w3 ⟨rfl, hb3⟩
    generalize hm : (if isC d0_ = true then d0_.n else 0) = m0
    generalize hq : isC d0_ = q0
    have HM := Lib.hid hm
    have HQ := Lib.hid hq
    clear hm hq
    have g3 := stays hb3 g2
    have B3 := bt rfl B2 hb3
    have z3 : w.heap.size < w3.heap.size := by have := hb3.size; omega
    clear g2 hb3 z2 B2
    go_wp2_with fail
    refine (int_any a1 w3).mono ?_
    rintro e w4 ⟨rfl, hb4⟩
    have g4 := stays hb4 g3
    have B4 := bt rfl B3 hb4
    have z4 : w.heap.size < w4.heap.size := by have := hb4.size; omega
    clear g3 hb4 z3 B3
    unfold exp
    go_wp2_with fail
    generalize hA4 : w4.alloc _ = A4
    obtain ⟨BA4, sA4, gx4, st4⟩ := made hA4 B4 z4
    have ge4 := st4 _ _ g4
    clear hA4 st4 g4
    generalize hbx : w4.heap.size = bx at *
    refine (bool_any a2 A4).mono ?_
    rintro e w5 ⟨rfl, hb5⟩
    generalize hy : (if a2 = true then (1 : Int) else 0) = y0
    have HY := Lib.hid hy
    clear hy
    have ge5 := stays hb5 ge4
    have gx5 := stays hb5 gx4
    have B5 := bt rfl BA4 hb5
    have z5 : w.heap.size < w5.heap.size := by have := hb5.size; omega
    clear ge4 gx4 hb5 BA4 sA4 B4 z4 hbx
    unfold exp
    go_wp2_with fail
    generalize hA5 : w5.alloc _ = A5
    obtain ⟨BA5, sA5, gy5, st5⟩ := made hA5 B5 z5
    have geA5 := st5 _ _ ge5
    have gxA5 := st5 _ _ gx5
    clear hA5 st5 ge5 gx5
    generalize hby : w5.heap.size = byy at *
    obtain ⟨x0, x1, x2, x3, x4, x5, x6, x7⟩ := cells8 gy5
    go_wp2_with fail
    clear x0 x1 x2 x3 x4 x5 x6 x7
    refine (value_nil (dB y0) (.slice none 0 0) (.slice none 0 0) A5).mono ?_
    rintro e w6 ⟨rfl, hb6⟩
    have eC : isC (dB y0) = true := rfl
    rw [eC, if_pos rfl]
    have eN : (dB y0).n = y0 := rfl
    rw [eN]
    clear eC eN
    have ge6 := stays hb6 geA5
    have gx6 := stays hb6 gxA5
    have gy6 := stays hb6 gy5
    have B6 := bt rfl BA5 hb6
    have z6 : w.heap.size < w6.heap.size := by have := hb6.size; omega
    clear geA5 gxA5 gy5 hb6 BA5 sA5 B5 z5 hby
    generalize hp : (a3.toList == [116, 114, 117, 101]) = qp
    cases a2
    all_goals
      have hy := HY.out
      simp only [if_true, if_false, Bool.false_eq_true] at hy
      subst hy
      clear HY
      go_wp2_with fail
      refine (pick_bool _ a3 qp hp w6).mono ?_
      rintro e w7 ⟨rfl, hb7⟩
      have ge7 := stays hb7 ge6
      have gx7 := stays hb7 gx6
      have B7 := bt rfl B6 hb7
      have z7 : w.heap.size < w7.heap.size := by have := hb7.size; omega
      clear ge6 gx6 gy6 hb7 B6 z6
      unfold exp
      have hpn : ((b2i qp : Int) == 1) = qp := by cases qp <;> rfl
      generalize b2i qp = np at hpn ⊢
      have hx : ∀ o : Obj, (w7.alloc o).heap[bx]? = some _ := fun o => (made rfl B7 z7).2.2.2 _ _ gx7
      have x0 := fun o => (cells8 (hx o)).1
      have x1 := fun o => (cells8 (hx o)).2.1
      have x2 := fun o => (cells8 (hx o)).2.2.1
      have x3 := fun o => (cells8 (hx o)).2.2.2.1
      have x4 := fun o => (cells8 (hx o)).2.2.2.2.1
      have x5 := fun o => (cells8 (hx o)).2.2.2.2.2.1
      have x6 := fun o => (cells8 (hx o)).2.2.2.2.2.2.1
      have x7 := fun o => (cells8 (hx o)).2.2.2.2.2.2.2
      clear hx
      go_wp2_with fail
      clear x0 x1 x2 x3 x4 x5 x6 x7
      generalize hA7 : w7.alloc _ = A7
      obtain ⟨BA7, sA7, gp7, st7⟩ := made hA7 B7 z7
      have geA7 := st7 _ _ ge7
      have gxA7 := st7 _ _ gx7
      clear hA7 st7 ge7 gx7
      generalize hbp : w7.heap.size = bp at *
      refine (when_any 1 0 a1 ⟨#[]⟩ _ _ a3 ⟨#[118]⟩ A7).mono ?_
      rintro e w8 ⟨na, nc, rfl, hb8, hs8⟩
      have ge8 := stays hb8 geA7
      have gx8 := stays hb8 gxA7
      have gp8 := stays hb8 gp7
      have B8 := bt rfl BA7 hb8
      have z8 : w.heap.size < w8.heap.size := by have := hb8.size; omega
      clear geA7 gxA7 gp7 hb8 B7 z7 BA7 sA7 hbp
      have hkk : ((d0_.k == 1) = true ∧ q0 = true ∧ m0 = d0_.n) ∨ ((d0_.k == 1) = false ∧ (d0_.k == 2) = true ∧ q0 = true ∧ m0 = d0_.n) ∨ ((d0_.k == 1) = false ∧ (d0_.k == 2) = false ∧ q0 = false) := by
        have h1 := HM.out
        have h2 := HQ.out
        cases q0
        · exact .inr (.inr ⟨(isC_false h2).1, (isC_false h2).2, rfl⟩)
        · rw [h2] at h1
          rcases isC_true h2 with h3 | h3
          · exact .inl ⟨h3, rfl, h1.symm⟩
          · exact .inr (.inl ⟨h3.1, h3.2, rfl, h1.symm⟩)
      clear HM HQ HN HK HWF
      unfold exp
      rcases hkk with ⟨h3, rfl, rfl⟩ | ⟨h3, h4, rfl, rfl⟩ | ⟨h3, h4, rfl⟩
      all_goals
        obtain ⟨x0, _, x2, _, _, _, _, _⟩ := cells8 ge8
        go_wp2_with fail
        clear x0 x2
        generalize hA8 : w8.alloc _ = A8
        obtain ⟨BA8, sA8, gw8, st8⟩ := made hA8 B8 z8
        have geA8 := st8 _ _ ge8
        have gxA8 := st8 _ _ gx8
        have gpA8 := st8 _ _ gp8
        have hsA8 : A8.cell? ⟨na, 0, none⟩ = some (.string a3) := by
          have hlt := World.block_lt_of_cell? w8 _ hs8
          rw [← hA8]
          exact (((Below.refl w8.heap.size w8).alloc (Nat.le_refl _) _).cell (p := ⟨na, 0, none⟩) hlt).trans hs8
        clear hA8 st8 ge8 gx8 gp8 hs8
        generalize hbw : w8.heap.size = bw at *
        refine (awake_any A8).mono ?_
        rintro e w9 ⟨rfl, hb9⟩
        have ge9 := stays hb9 geA8
        have gx9 := stays hb9 gxA8
        have gp9 := stays hb9 gpA8
        have gw9 := stays hb9 gw8
        have hs9 : w9.cell? ⟨na, 0, none⟩ = some (.string a3) := (hb9.cell (p := ⟨na, 0, none⟩) (World.block_lt_of_cell? A8 _ hsA8)).trans hsA8
        have B9 := bt rfl BA8 hb9
        clear geA8 gxA8 gpA8 gw8 hsA8 hb9 BA8 sA8 B8 z8 hbw
        obtain ⟨_, _, x2, _, _, _, _, _⟩ := cells8 ge9
        obtain ⟨y0, _, y2, _, _, _, _, _⟩ := cells8 gx9
        go_wp2_with fail
        clear x2 y0 y2 ge9 gx9
        refine (ctor_any a3 w9).mono ?_
        rintro e w10 ⟨rfl, hb10⟩
        have gp10 := stays hb10 gp9
        have gw10 := stays hb10 gw9
        have hs10 : w10.cell? ⟨na, 0, none⟩ = some (.string a3) := (hb10.cell (p := ⟨na, 0, none⟩) (World.block_lt_of_cell? w9 _ hs9)).trans hs9
        have B10 := bt rfl B9 hb10
        clear gp9 gw9 hs9 hb10 B9
        have hf3 : ∀ w : World, (Instr.field 30 (.agg #[.int .u8 3, .int .u8 0, .int .i32 0, .string a3, .slice none 0 0, .slice none 0 0, .int .i64 0, .int .i64 0]) 3).run Try.prog w = .ok (.string a3) w := fun _ => by kernel_rfl
        have hf0 : ∀ w : World, (Instr.field 30 (.agg #[.int .u8 4, .int .u8 0, .int .i32 0, .string a3, .slice none 0 0, .slice none 0 0, .int .i64 0, .int .i64 0]) 0).run Try.prog w = .ok (.int .u8 4) w := fun _ => by kernel_rfl
        unfold exp
        go_wp2_with fail
        refine (name_any a3 w10).mono ?_
        rintro e w11 ⟨rfl, hb11⟩
        have gp11 := stays hb11 gp10
        have gw11 := stays hb11 gw10
        have hs11 : w11.cell? ⟨na, 0, none⟩ = some (.string a3) := (hb11.cell (p := ⟨na, 0, none⟩) (World.block_lt_of_cell? w10 _ hs10)).trans hs10
        have B11 := bt rfl B10 hb11
        clear gp10 gw10 hs10 hb11 B10
        unfold exp
        obtain ⟨_, _, x2, _, _, _, _, _⟩ := cells8 gp11
        go_wp2_with fail
        clear x2 gp11
        refine (pick_ctor 2 rfl _ a3 w11).mono ?_
        rintro e w12 ⟨rfl, hb12⟩
        have gw12 := stays hb12 gw11
        have hs12 : w12.cell? ⟨na, 0, none⟩ = some (.string a3) := (hb12.cell (p := ⟨na, 0, none⟩) (World.block_lt_of_cell? w11 _ hs11)).trans hs11
        have B12 := bt rfl B11 hb12
        clear gw11 hs11 hb12 B11
        unfold exp
        obtain ⟨x0, _, _, x3, x4, x5, _, _⟩ := cells8 gw12
        go_wp2
        go_ret
        exact ⟨rfl, B12⟩
  · go_wp2_with fail
    refine (awake_any w2).mono ?_
    rintro e w3_ ⟨rfl, hb3⟩
    go_wp2
    go_ret
    exact ⟨rfl, bt rfl B2 hb3⟩

set_option maxRecDepth 100000 in
theorem contract (H : Type) (enc : TypeId × Value → H) (W : World) (base : Nat) (args : Array Value) (ds gs : List (DataW H)) (before : List MemPlace)
    (hval : ∀ (j : Nat) t v, Try.f5.params[j]? = some t → args[j]? = some v → Value.okWide Try.prog W .any base t v)
    (hW : DataW.Whole enc Try.prog Try.f5.params.toList Rows.treeValuesSpec.vars false W args.toList ds gs before) :
    Calls Try.prog 5 args W fun e W' => ∃ v, e = .returned v ∧ Rows.treeValuesSpec.post enc Try.prog Try.f5 false true false false W args v W' := by
  have hW' := hW
  obtain ⟨p, q, hA0, hV, rfl, hfz, hnd⟩ := hW
  have hA : DataW.TrodAll enc Try.prog W 0 (fun _ => true) true Try.f5.params.toList args.toList ds p := hA0
  rw [Try.params5] at hA hval
  obtain ⟨v0, vs0, d0, ds0, p0, q0, hargs, rfl, rfl, h0, r0⟩ := trodAll_cons hA
  obtain ⟨v1, vs1, d1, ds1, p1, q1, rfl, rfl, rfl, h1, r1⟩ := trodAll_cons r0
  obtain ⟨v2, vs2, d2, ds2, p2, q2, rfl, rfl, rfl, h2, r2⟩ := trodAll_cons r1
  obtain ⟨v3, vs3, d3, ds3, p3, q3, rfl, rfl, rfl, h3, r3⟩ := trodAll_cons r2
  obtain ⟨rfl, rfl, rfl⟩ := trodAll_nil r3
  obtain rfl : args = #[v0, v1, v2, v3] := by cases args; simp_all
  obtain ⟨rfl, rfl⟩ := trodVars_none hV
  have k0 := h0
  have lt0 : ∀ x ∈ p0, x.block < W.heap.size := by obtain ⟨m, hm⟩ := k0; exact DataW.trod_lt m _ _ _ hm
  obtain ⟨d0_, ks0, nv0, kv0, rfl, wd0, hn0, hk0⟩ := Tx.open_expr (hval 0 30 v0 rfl rfl) h0
  obtain ⟨a1, rfl, rfl, rfl, w1⟩ := open_int Try.underlying21 (hval 1 21 v1 rfl rfl) h1
  obtain ⟨a2, rfl, rfl, rfl⟩ := open_bool Try.underlying4 (hval 2 4 v2 rfl rfl) h2
  obtain ⟨a3, rfl, rfl, rfl, w3⟩ := open_string Try.underlying9 (hval 3 9 v3 rfl rfl) h3
  clear hA0
  simp only [List.append_nil] at hW'
  refine (walk d0_ ks0 nv0 kv0 a1 a2 a3 W wd0 hn0 hk0 w1 w3).mono fun e W' ⟨he, bel⟩ => ?_
  subst he
  exact ⟨_, rfl, _, _, _, [], _, [], hW', trodAll_mk1 (shut_bool Try.underlying4 _), (trodAll_cons_mk (Below.trod laidOut (by kernel_rfl) (of_decide_eq_true (by kernel_rfl)) k0 bel lt0) (trodAll_cons_mk (shut_int Try.underlying21 w1) (trodAll_cons_mk (shut_bool Try.underlying4 _) (trodAll_cons_mk (shut_string Try.underlying9 w3) trodAll_mk0)))), rfl, bel.frame _, fun h => by cases h⟩

set_option maxRecDepth 100000 in
theorem lifted (os : Os) (started : os.Started) (H : Type) (enc : TypeId × Value → H) :
    ReturnsInHanded {} Try.checked os 5 .any (Rows.treeValuesSpec.pre6 enc Try.prog Try.f5 Rows.treeValuesRow.domain false) (Rows.treeValuesSpec.post enc Try.prog Try.f5 false true false false) := by
  refine returnsInHanded_of_change (C := Try.checked) own started (by kernel_rfl) Try.func5
    (ChangeSpec.witness6 (enc := enc) (C := Try.checked) false ⟨#[], #[.agg #[.int .u8 0, .int .u8 0, .int .i32 0, .string ByteArray.empty, .slice none 0 0, .slice none 0 0, .int .i64 0, .int .i64 0], .int .i32 0, .bool false, .string ByteArray.empty], []⟩ 8 (by kernel_rfl) (by kernel_rfl) (by kernel_rfl) (by kernel_rfl)) ?_
  intro W base args ds gs before hval hW hcnd _
  exact contract H enc W base args ds gs before hval hW

theorem over : Rows.treeValuesRow.holds Try.pinned (OpenSpec.ofChange Rows.treeValuesSpec) :=
  OpenClaim.holds_of_wide 5 Try.f5 rfl rfl rfl rfl rfl rfl rfl ⟨rfl, rfl, rfl, rfl, rfl⟩ rfl rfl rfl rfl rfl (by kernel_rfl) Try.func5 (by kernel_rfl)
    (of_decide_eq_true (by kernel_rfl)) (by unfold Func.isWrapper; first | (rw [if_pos (by decide +kernel)]; kernel_rfl) | (rw [if_neg (by decide +kernel)]; exact ⟨rfl, rfl⟩))
    (fun os started H enc _ => lifted os started H enc)

theorem proved : Rows.TreeValuesSaid := over
#print axioms proved
end Go.Proofs.Ytggoejghnlgigaa.treeValues
