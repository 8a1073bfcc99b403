/-
  TreeVars returns true. No condition.
-/
import Derived.Test.YtggoejghnlgigaaTvq
import Derived.WalkKit
import Derived.ProofKit
import Derived.OpenShut
import Derived.ShutString
import Derived.ChangeOld
import Derived.Below
import Derived.SliceStrings
import Derived.Lib.SmallJoins
import Derived.Lib.Hide
import Derived.Test.YtggoejghnlgigaaTc2
namespace Go.Proofs.Ytggoejghnlgigaa.treeVars
open Go.ChangeShapes Go.WideShapes Go.ChangeAt Go.RowKit
open Go.ChangeMaps (open_string shut_string)
open Go.Joins
set_option linter.unusedVariables false

theorem own : ownKnob Try.prog.godebug = none := by kernel_rfl
theorem laidOut : laidOutB Try.prog = true := by kernel_rfl

open Tx
theorem all15 {w : World} {b : Nat} {c0 c1 c2 c3 c4 c5 c6 c7 c8 c9 c10 c11 c12 c13 c14 : Value} {t : TypeId} {fr : Nat × Nat} (h : w.heap[b]? = some (.cells #[c0, c1, c2, c3, c4, c5, c6, c7, c8, c9, c10, c11, c12, c13, c14] t fr)) :
    w.cell? ⟨b, 0, none⟩ = some c0 ∧ w.cell? ⟨b, 1, none⟩ = some c1 ∧ w.cell? ⟨b, 2, none⟩ = some c2 ∧ w.cell? ⟨b, 3, none⟩ = some c3 ∧ w.cell? ⟨b, 4, none⟩ = some c4 ∧ w.cell? ⟨b, 5, none⟩ = some c5 ∧ w.cell? ⟨b, 6, none⟩ = some c6 ∧ w.cell? ⟨b, 7, none⟩ = some c7 ∧ w.cell? ⟨b, 8, none⟩ = some c8 ∧ w.cell? ⟨b, 9, none⟩ = some c9 ∧ w.cell? ⟨b, 10, none⟩ = some c10 ∧ w.cell? ⟨b, 11, none⟩ = some c11 ∧ w.cell? ⟨b, 12, none⟩ = some c12 ∧ w.cell? ⟨b, 13, none⟩ = some c13 ∧ w.cell? ⟨b, 14, none⟩ = some c14 := by
  refine ⟨?_, ?_, ?_, ?_, ?_, ?_, ?_, ?_, ?_, ?_, ?_, ?_, ?_, ?_, ?_⟩ <;> (rw [cell_of_row w b _ _ _ _ h]; rfl)
/-- A variable in a block of its own is a list of one. -/
theorem vars_one {B B' : Nat → Prop} {w w' : World} {x : Vd} {cv nv kv : Value} {lb : Nat} {t : TypeId} {fr : Nat × Nat} (hx : VarIn B w x cv nv kv) (hBB : ∀ k, B k → B' k) (hl : B' lb)
    (kp : ∀ b o v, B b → w.cell? ⟨b, o, none⟩ = some v → w'.cell? ⟨b, o, none⟩ = some v) (hb : w'.heap[lb]? = some (.cells (vcells x cv nv kv).toArray t fr)) : VarsIn B' w' (.slice (some ⟨lb, 0, none⟩) 1 1) [x] := by
  refine .inr ⟨lb, 0, 1, rfl, Nat.le_refl _, by decide, hl, fun i y hi => ?_⟩
  have hi0 : i = 0 := by have := (List.getElem?_eq_some_iff.1 hi).1; simp at this; exact this
  subst hi0
  simp only [List.getElem?_cons_zero, Option.some.injEq] at hi
  subst hi
  refine ⟨cv, nv, kv, fun j v hj => ?_, (hx.keep kp).mono hBB⟩
  rw [show 0 + 0 * 15 + j = j by omega, cell_of_row w' lb j _ _ _ hb]
  simpa using hj

set_option maxHeartbeats 8000000 in
set_option maxRecDepth 100000 in
theorem walk (x0_ : Tx.Vd) (cv0 nv0 kv0 : Value) (x1_ : Tx.Vd) (cv1 nv1 kv1 : Value) (w : World) (hx0 : Tx.VarIn (fun k => k < w.heap.size) w x0_ cv0 nv0 kv0) (hx1 : Tx.VarIn (fun k => k < w.heap.size) w x1_ cv1 nv1 kv1) :
    Calls Try.prog 3 #[Tx.varV x0_ cv0 nv0 kv0, Tx.varV x1_ cv1 nv1 kv1] w fun e w' => e = .returned (.bool true) ∧ Below w.heap.size w w' := by
  have HX := Lib.hid hx0
  have HY := Lib.hid hx1
  obtain ⟨ca, cn, rfl⟩ := hx0.ck.form
  obtain ⟨cb, cm, rfl⟩ := hx1.ck.form
  clear hx0 hx1
  unfold Tx.varV
  go_enter Try.func3, Try.ntmps3
  go_wp2_with fail
  generalize hW1 : (w.alloc _).alloc _ = W1
  obtain ⟨g1, g2, B1, z1⟩ := two hW1
  clear hW1
  have kp1 : ∀ b o v, b < w.heap.size → w.cell? ⟨b, o, none⟩ = some v → W1.cell? ⟨b, o, none⟩ = some v := fun b o v hb hc => (B1.cell (p := ⟨b, o, none⟩) hb).trans hc
  refine (great2_any (fun k => k < w.heap.size) W1 (fun k hk => by omega) x0_.d x0_.ks nv0 kv0 (HX.out.ns.keep kp1) (HX.out.ks.keep kp1) 1000 (by omega) (by omega)).mono ?_
  rintro e w2 ⟨r1, rfl, hs1, hb2⟩
  have HS1 := Lib.hid hs1
  have q1 := stays hb2 g1
  have q2 := stays hb2 g2
  have B2 := bt rfl B1 hb2
  have z2 : w.heap.size + 1 < w2.heap.size := by have := hb2.size; omega
  have HB2 := Lib.hid B2
  clear g1 g2 hb2 B1 z1 kp1 hs1 B2
  cases r1
  · obtain ⟨y0, y1, y2, y3, y4, y5, y6, y7, y8, y9, y10, y11, y12, y13, y14⟩ := all15 q2
    go_wp2_with fail
    clear y0 y1 y2 y3 y4 y5 y6 y7 y8 y9 y10 y11 y12 y13 y14
    have kp2 : ∀ b o v, b < w.heap.size → w.cell? ⟨b, o, none⟩ = some v → w2.cell? ⟨b, o, none⟩ = some v := fun b o v hb hc => (HB2.out.cell (p := ⟨b, o, none⟩) hb).trans hc
    refine (great2_any (fun k => k < w.heap.size) w2 (fun k hk => by omega) x1_.d x1_.ks nv1 kv1 (HY.out.ns.keep kp2) (HY.out.ks.keep kp2) 1000 (by omega) (by omega)).mono ?_
    rintro e w3 ⟨r2, rfl, hs2, hb3⟩
    have p1 := stays hb3 q1
    have p2 := stays hb3 q2
    have B3 := bt rfl HB2.out hb3
    have z3 : w.heap.size + 1 < w3.heap.size := by have := hb3.size; omega
    have HB3 := Lib.hid B3
    clear q1 q2 hb3 z2 kp2 hs2 B3
    cases r2
    · obtain ⟨x0, x1, x2, x3, x4, x5, x6, x7, x8, x9, x10, x11, x12, x13, x14⟩ := all15 p1
      obtain ⟨y0, y1, y2, y3, y4, y5, y6, y7, y8, y9, y10, y11, y12, y13, y14⟩ := all15 p2
      have P1 := Lib.hid p1
      have P2 := Lib.hid p2
      clear p1 p2
      by_cases l1 : 100 < x0_.ck.length
      · go_wp2_with fail
        refine (awake_any _).mono ?_
        rintro e wz ⟨rfl, hbz⟩
        go_wp2
        go_ret
        exact ⟨rfl, bt rfl HB3.out hbz⟩
      by_cases l2 : 100 < x1_.ck.length
      · go_wp2_with fail
        refine (awake_any _).mono ?_
        rintro e wz ⟨rfl, hbz⟩
        go_wp2
        go_ret
        exact ⟨rfl, bt rfl HB3.out hbz⟩
      have hsz : x0_.ks.size ≤ 100000 := by have := HS1.out (by first | rfl | trivial); omega
      have HSZ := Lib.hid hsz
      clear hsz
      generalize hq : sameV x0_ x1_ = q
      have HC1 : Hid (∀ w', Below w3.heap.size w3 w' → Calls Try.prog 8 #[varV x0_ (.slice ca x0_.ck.length cn) nv0 kv0, varV x1_ (.slice cb x1_.ck.length cm) nv1 kv1] w' (Ans w' q)) := Lib.hid (fun w' hw0 => by
        have hw' := bt rfl HB3.out hw0
        exact sameVar_any (fun k => k < w.heap.size) w' (fun k hk => Nat.lt_of_lt_of_le hk hw'.size) x0_ x1_ _ _ _ _ _ _ (HX.out.keep (fun b o v hb hc => (hw'.cell (p := ⟨b, o, none⟩) hb).trans hc)) (HY.out.keep (fun b o v hb hc => (hw'.cell (p := ⟨b, o, none⟩) hb).trans hc)) HSZ.out q hq)
      have HC3 : Hid (∀ w', Below w3.heap.size w3 w' → Calls Try.prog 8 #[varV x0_ (.slice ca x0_.ck.length cn) nv0 kv0, varV x0_ (.slice ca x0_.ck.length cn) nv0 kv0] w' (Ans w' true)) := Lib.hid (fun w' hw0 => by
        have hw' := bt rfl HB3.out hw0
        exact sameVar_any (fun k => k < w.heap.size) w' (fun k hk => Nat.lt_of_lt_of_le hk hw'.size) x0_ x0_ _ _ _ _ _ _ (HX.out.keep (fun b o v hb hc => (hw'.cell (p := ⟨b, o, none⟩) hb).trans hc)) (HX.out.keep (fun b o v hb hc => (hw'.cell (p := ⟨b, o, none⟩) hb).trans hc)) HSZ.out true (sameV_self _))
      have HC2 : Hid (∀ w' bx bY, Below w3.heap.size w3 w' → w'.heap[bx]? = some (.cells #[.string x0_.nm, .int .u8 x0_.tk, .string x0_.tn, .slice ca x0_.ck.length cn, .bool x0_.last, .int .u8 x0_.d.k, .int .u8 x0_.d.op, .int .i32 x0_.d.n, .string x0_.d.nm, nv0, kv0, .int .i64 x0_.d.line, .int .i64 x0_.d.col, .int .i64 x0_.line, .int .i64 x0_.col] 32 (0, 0)) → w'.heap[bY]? = some (.cells #[.string x1_.nm, .int .u8 x1_.tk, .string x1_.tn, .slice cb x1_.ck.length cm, .bool x1_.last, .int .u8 x1_.d.k, .int .u8 x1_.d.op, .int .i32 x1_.d.n, .string x1_.d.nm, nv1, kv1, .int .i64 x1_.d.line, .int .i64 x1_.d.col, .int .i64 x1_.line, .int .i64 x1_.col] 32 (0, 0)) → Calls Try.prog 9 #[.slice (some ⟨bx, 0, none⟩) 1 1, .slice (some ⟨bY, 0, none⟩) 1 1] w' (Ans w' q)) := Lib.hid (fun w' bx bY hw0 h1 h2 => by
        have hw' := bt rfl HB3.out hw0
        have k1 := (Array.getElem?_eq_some_iff.1 h1).1
        have k2 := (Array.getElem?_eq_some_iff.1 h2).1
        have kp : ∀ b o v, b < w.heap.size → w.cell? ⟨b, o, none⟩ = some v → w'.cell? ⟨b, o, none⟩ = some v := fun b o v hb hc => (hw'.cell (p := ⟨b, o, none⟩) hb).trans hc
        exact refVars_any (fun k => k < w.heap.size ∨ k = bx ∨ k = bY) w' (fun k hk => by
          rcases hk with h | h | h
          · exact Nat.lt_of_lt_of_le h hw'.size
          · omega
          · omega) _ _ [x0_] [x1_] (vars_one HX.out (fun k h => .inl h) (.inr (.inl rfl)) kp h1) (vars_one HY.out (fun k h => .inl h) (.inr (.inr rfl)) kp h2) q (by simp [sameVs, hq]))
      unfold Tx.varV at HC1 HC3
      have zA : w.heap.size < w3.heap.size := by omega
      have zB : w.heap.size + 1 < w3.heap.size := z3
      clear hq HX HY HS1 HSZ
      go_wp2_with fail
      refine wp_region_noPanic ?_
      refine vars_part w3 w.heap.size _ _ _ _ _ _ _ _ _ _ _ _ _ _ _ _ _ _ _ _ _ _ _ _ _ _ _ _ _ _ q zB P1.out P2.out HC1.out HC3.out HC2.out _ _ _ _ _ _ _ _ _ _ _ _ _ _ _ _ _ _ _ _ _ _ _ _ _ _ _ _ _ _ _ _ _ _ _ _ _ _ _ _ _ _ (fun _ _ _ _ _ h => h) ?_
      intro s26 s27 s28 s29 s30 s31 s32 s33 s34 s35 s36 s37 s38 s39 s40 s41 s42 wq hbq
      simp only [NoPanic]
      go_wp2
      go_ret
      exact ⟨rfl, bt rfl HB3.out hbq⟩
    · go_wp2_with fail
      refine (awake_any _).mono ?_
      rintro e wz ⟨rfl, hbz⟩
      go_wp2
      go_ret
      exact ⟨rfl, bt rfl HB3.out hbz⟩
  · go_wp2_with fail
    refine (awake_any _).mono ?_
    rintro e wz ⟨rfl, hbz⟩
    go_wp2
    go_ret
    exact ⟨rfl, bt rfl HB2.out hbz⟩

set_option maxRecDepth 100000 in
theorem contract (H : Type) (enc : TypeId × Value → H) (W : World) (base : Nat) (args : Array Value) (ds gs : List (DataW H)) (before : List MemPlace)
    (hval : ∀ (j : Nat) t v, Try.f3.params[j]? = some t → args[j]? = some v → Value.okWide Try.prog W .any base t v)
    (hW : DataW.Whole enc Try.prog Try.f3.params.toList Rows.treeVarsSpec.vars false W args.toList ds gs before) :
    Calls Try.prog 3 args W fun e W' => ∃ v, e = .returned v ∧ Rows.treeVarsSpec.post enc Try.prog Try.f3 false true false false W args v W' := by
  have hW' := hW
  obtain ⟨p, q, hA0, hV, rfl, hfz, hnd⟩ := hW
  have hA : DataW.TrodAll enc Try.prog W 0 (fun _ => true) true Try.f3.params.toList args.toList ds p := hA0
  rw [Try.params3] at hA hval
  obtain ⟨v0, vs0, d0, ds0, p0, q0, hargs, rfl, rfl, h0, r0⟩ := trodAll_cons hA
  obtain ⟨v1, vs1, d1, ds1, p1, q1, rfl, rfl, rfl, h1, r1⟩ := trodAll_cons r0
  obtain ⟨rfl, rfl, rfl⟩ := trodAll_nil r1
  obtain rfl : args = #[v0, v1] := by cases args; simp_all
  obtain ⟨rfl, rfl⟩ := trodVars_none hV
  have k0 := h0
  have lt0 : ∀ x ∈ p0, x.block < W.heap.size := by obtain ⟨m, hm⟩ := k0; exact DataW.trod_lt m _ _ _ hm
  obtain ⟨x0_, cv0, nv0, kv0, rfl, hx0⟩ := Tx.open_var (hval 0 32 v0 rfl rfl) h0
  have k1 := h1
  have lt1 : ∀ x ∈ p1, x.block < W.heap.size := by obtain ⟨m, hm⟩ := k1; exact DataW.trod_lt m _ _ _ hm
  obtain ⟨x1_, cv1, nv1, kv1, rfl, hx1⟩ := Tx.open_var (hval 1 32 v1 rfl rfl) h1
  clear hA0
  simp only [List.append_nil] at hW'
  refine (walk x0_ cv0 nv0 kv0 x1_ cv1 nv1 kv1 W hx0 hx1).mono fun e W' ⟨he, bel⟩ => ?_
  subst he
  exact ⟨_, rfl, _, _, _, [], _, [], hW', trodAll_mk1 (shut_bool Try.underlying4 _), (trodAll_cons_mk (Below.trod laidOut (by kernel_rfl) (of_decide_eq_true (by kernel_rfl)) k0 bel lt0) (trodAll_cons_mk (Below.trod laidOut (by kernel_rfl) (of_decide_eq_true (by kernel_rfl)) k1 bel lt1) trodAll_mk0)), rfl, bel.frame _, fun h => by cases h⟩

set_option maxRecDepth 100000 in
theorem lifted (os : Os) (started : os.Started) (H : Type) (enc : TypeId × Value → H) :
    ReturnsInHanded {} Try.checked os 3 .any (Rows.treeVarsSpec.pre6 enc Try.prog Try.f3 Rows.treeVarsRow.domain false) (Rows.treeVarsSpec.post enc Try.prog Try.f3 false true false false) := by
  refine returnsInHanded_of_change (C := Try.checked) own started (by kernel_rfl) Try.func3
    (ChangeSpec.witness6 (enc := enc) (C := Try.checked) false ⟨#[], #[.agg #[.string ByteArray.empty, .int .u8 0, .string ByteArray.empty, .slice none 0 0, .bool false, .int .u8 0, .int .u8 0, .int .i32 0, .string ByteArray.empty, .slice none 0 0, .slice none 0 0, .int .i64 0, .int .i64 0, .int .i64 0, .int .i64 0], .agg #[.string ByteArray.empty, .int .u8 0, .string ByteArray.empty, .slice none 0 0, .bool false, .int .u8 0, .int .u8 0, .int .i32 0, .string ByteArray.empty, .slice none 0 0, .slice none 0 0, .int .i64 0, .int .i64 0, .int .i64 0, .int .i64 0]], []⟩ 8 (by kernel_rfl) (by kernel_rfl) (by kernel_rfl) (by kernel_rfl)) ?_
  intro W base args ds gs before hval hW hcnd _
  exact contract H enc W base args ds gs before hval hW

theorem over : Rows.treeVarsRow.holds Try.pinned (OpenSpec.ofChange Rows.treeVarsSpec) :=
  OpenClaim.holds_of_wide 3 Try.f3 rfl rfl rfl rfl rfl rfl rfl ⟨rfl, rfl, rfl, rfl, rfl⟩ rfl rfl rfl rfl rfl (by kernel_rfl) Try.func3 (by kernel_rfl)
    (of_decide_eq_true (by kernel_rfl)) (by unfold Func.isWrapper; first | (rw [if_pos (by decide +kernel)]; kernel_rfl) | (rw [if_neg (by decide +kernel)]; exact ⟨rfl, rfl⟩))
    (fun os started H enc _ => lifted os started H enc)

theorem proved : Rows.TreeVarsSaid := over
#print axioms proved
end Go.Proofs.Ytggoejghnlgigaa.treeVars
