/-
  ClocksSame returns true. No condition.
-/
import Derived.Test.YtcklccpcajbjeaaCs
import Derived.WalkKit
import Derived.ProofKit
import Derived.OpenShut
import Derived.ShutString
import Derived.ChangeOld
import Derived.Below
import Derived.SliceStrings
import Derived.Lib.SmallJoins
import Derived.Lib.Hide
import Derived.Test.YtcklccpcajbjeaaRs9
namespace Go.Proofs.Ytcklccpcajbjeaa.clocksSame
open Go.ChangeShapes Go.WideShapes Go.ChangeAt Go.RowKit
open Go.ChangeMaps (open_string shut_string)
open Go.Joins
set_option linter.unusedVariables false

theorem own : ownKnob Try.prog.godebug = none := by kernel_rfl
theorem laidOut : laidOutB Try.prog = true := by kernel_rfl


set_option maxHeartbeats 4000000 in
theorem walk (cv0 : Value) (l0 : Tx.Ck) (cv1 : Value) (l1 : Tx.Ck) (w : World) (hc0 : Tx.CkIn (fun k => k < w.heap.size) w cv0 l0) (hc1 : Tx.CkIn (fun k => k < w.heap.size) w cv1 l1) :
    Calls Try.prog 3 #[cv0, cv1] w fun e w' => e = .returned (.bool true) ∧ Below w.heap.size w w' := by
  obtain ⟨ao0, c0, rfl⟩ := hc0.form
  obtain ⟨ao1, c1, rfl⟩ := hc1.form
  have keep : ∀ {w' : World} {v : Value} {l : Tx.Ck}, Below w.heap.size w w' → Tx.CkIn (fun k => k < w.heap.size) w v l → Tx.CkIn (fun k => k < w.heap.size) w' v l := fun hb h => h.keep fun b o v hB hv => by rw [hb.cell (p := ⟨b, o, none⟩) hB]; exact hv
  have H0 := Lib.hid hc0
  have H1 := Lib.hid hc1
  clear hc0 hc1
  by_cases hbig : 100 < l0.length ∨ 100 < l1.length
  · by_cases hb0 : 100 < l0.length
    · have h0 : (100 : Int) < (l0.length : Int) := by omega
      go_enter Try.func3, Try.ntmps3
      go_wp2_with (go_at_call 5; refine (Rx.awake_any _).mono ?_; rintro e w1 ⟨rfl, hb1⟩)
      go_ret
      exact ⟨rfl, hb1⟩
    · have h0 : ¬ (100 : Int) < (l0.length : Int) := by omega
      have h1 : (100 : Int) < (l1.length : Int) := by omega
      go_enter Try.func3, Try.ntmps3
      go_wp2_with (go_at_call 5; refine (Rx.awake_any _).mono ?_; rintro e w1 ⟨rfl, hb1⟩)
      go_ret
      exact ⟨rfl, hb1⟩
  · have h0 : ¬ (100 : Int) < (l0.length : Int) := by omega
    have h1 : ¬ (100 : Int) < (l1.length : Int) := by omega
    go_enter Try.func3, Try.ntmps3
    go_wp2_with fail
    refine (Rx.awake_any _).mono ?_
    rintro e w1 ⟨rfl, hb1⟩
    have HB := Lib.hid hb1
    clear hb1
    go_wp2_with fail
    refine (Tx.same_any _ _ _ _ _ _ (keep HB.out H0.out) (keep HB.out H1.out)).mono ?_
    rintro e w2 ⟨rfl, n2, rfl⟩
    have HB2 : Hid (Below w.heap.size w (w1.drewN n2)) := Lib.hid ⟨HB.out.os, HB.out.tape, HB.out.output, HB.out.size, HB.out.block⟩
    go_wp2_with fail
    refine (Tx.rclock_any _ _ _ _ _ _ (keep HB2.out H0.out) (keep HB2.out H1.out)).mono ?_
    rintro e w3 ⟨rfl, n3, rfl⟩
    have HB3 : Hid (Below w.heap.size w (w1.drewN (n2 + n3))) := Lib.hid ⟨HB.out.os, HB.out.tape, HB.out.output, HB.out.size, HB.out.block⟩
    go_wp2_with fail
    refine (Tx.same_any _ _ _ _ _ _ (keep HB3.out H0.out) (keep HB3.out H0.out)).mono ?_
    rintro e w4 ⟨rfl, n4, rfl⟩
    have HB4 : Hid (Below w.heap.size w (w1.drewN (n2 + n3 + n4))) := Lib.hid ⟨HB.out.os, HB.out.tape, HB.out.output, HB.out.size, HB.out.block⟩
    have hs := Tx.sameC_self l0
    go_wp2
    go_ret
    exact ⟨by simp [hs], HB4.out⟩

set_option maxRecDepth 100000 in
theorem contract (H : Type) (enc : TypeId × Value → H) (W : World) (base : Nat) (args : Array Value) (ds gs : List (DataW H)) (before : List MemPlace)
    (hval : ∀ (j : Nat) t v, Try.f3.params[j]? = some t → args[j]? = some v → Value.okWide Try.prog W .any base t v)
    (hW : DataW.Whole enc Try.prog Try.f3.params.toList Rows.clocksSameSpec.vars false W args.toList ds gs before) :
    Calls Try.prog 3 args W fun e W' => ∃ v, e = .returned v ∧ Rows.clocksSameSpec.post enc Try.prog Try.f3 false true false false W args v W' := by
  have hW' := hW
  obtain ⟨p, q, hA0, hV, rfl, hfz, hnd⟩ := hW
  have hA : DataW.TrodAll enc Try.prog W 0 (fun _ => true) true Try.f3.params.toList args.toList ds p := hA0
  rw [Try.params3] at hA hval
  obtain ⟨v0, vs0, d0, ds0, p0, q0, hargs, rfl, rfl, h0, r0⟩ := trodAll_cons hA
  obtain ⟨v1, vs1, d1, ds1, p1, q1, rfl, rfl, rfl, h1, r1⟩ := trodAll_cons r0
  obtain ⟨rfl, rfl, rfl⟩ := trodAll_nil r1
  obtain rfl : args = #[v0, v1] := by cases args; simp_all
  obtain ⟨rfl, rfl⟩ := trodVars_none hV
  have k0 := h0
  have lt0 : ∀ x ∈ p0, x.block < W.heap.size := by obtain ⟨m, hm⟩ := k0; exact DataW.trod_lt m _ _ _ hm
  obtain ⟨_, l0, rfl, hc0⟩ := Tx.open_clock (hval 0 22 v0 rfl rfl) h0
  have k1 := h1
  have lt1 : ∀ x ∈ p1, x.block < W.heap.size := by obtain ⟨m, hm⟩ := k1; exact DataW.trod_lt m _ _ _ hm
  obtain ⟨_, l1, rfl, hc1⟩ := Tx.open_clock (hval 1 22 v1 rfl rfl) h1
  clear hA0
  simp only [List.append_nil] at hW'
  refine (walk v0 l0 v1 l1 W hc0 hc1).mono fun e W' ⟨he, bel⟩ => ?_
  subst he
  exact ⟨_, rfl, _, _, _, [], _, [], hW', trodAll_mk1 (shut_bool Try.underlying4 _), (trodAll_cons_mk (Below.trod laidOut (by kernel_rfl) (of_decide_eq_true (by kernel_rfl)) k0 bel lt0) (trodAll_cons_mk (Below.trod laidOut (by kernel_rfl) (of_decide_eq_true (by kernel_rfl)) k1 bel lt1) trodAll_mk0)), rfl, bel.frame _, fun h => by cases h⟩

set_option maxRecDepth 100000 in
theorem lifted (os : Os) (started : os.Started) (H : Type) (enc : TypeId × Value → H) :
    ReturnsInHanded {} Try.checked os 3 .any (Rows.clocksSameSpec.pre6 enc Try.prog Try.f3 Rows.clocksSameRow.domain false) (Rows.clocksSameSpec.post enc Try.prog Try.f3 false true false false) := by
  refine returnsInHanded_of_change (C := Try.checked) own started (by kernel_rfl) Try.func3
    (ChangeSpec.witness6 (enc := enc) (C := Try.checked) false ⟨#[], #[.slice none 0 0, .slice none 0 0], []⟩ 8 (by kernel_rfl) (by kernel_rfl) (by kernel_rfl) (by kernel_rfl)) ?_
  intro W base args ds gs before hval hW hcnd _
  exact contract H enc W base args ds gs before hval hW

theorem over : Rows.clocksSameRow.holds Try.pinned (OpenSpec.ofChange Rows.clocksSameSpec) :=
  OpenClaim.holds_of_wide 3 Try.f3 rfl rfl rfl rfl rfl rfl rfl ⟨rfl, rfl, rfl, rfl, rfl⟩ rfl rfl rfl rfl rfl (by kernel_rfl) Try.func3 (by kernel_rfl)
    (of_decide_eq_true (by kernel_rfl)) (by unfold Func.isWrapper; first | (rw [if_pos (by decide +kernel)]; kernel_rfl) | (rw [if_neg (by decide +kernel)]; exact ⟨rfl, rfl⟩))
    (fun os started H enc _ => lifted os started H enc)

theorem proved : Rows.ClocksSameSaid := over
#print axioms proved
end Go.Proofs.Ytcklccpcajbjeaa.clocksSame
