/-
  LexKeys returns true. No condition.
-/
import Derived.Test.YtkamkfakokhocaaLexG
import Derived.WalkKit
import Derived.ProofKit
import Derived.OpenShut
import Derived.ShutString
import Derived.ChangeOld
import Derived.Below
import Derived.SliceStrings
import Derived.Lib.SmallJoins
import Derived.Lib.Hide
namespace Go.Proofs.Ytkamkfakokhocaa.lexKeys
open Go.ChangeShapes Go.WideShapes Go.ChangeAt Go.RowKit
open Go.ChangeMaps (open_string shut_string)
open Go.Joins
set_option linter.unusedVariables false

theorem own : ownKnob Try.prog.godebug = none := by kernel_rfl
theorem laidOut : laidOutB Try.prog = true := by kernel_rfl

theorem keys_facts : ∀ z ∈ Lx.keys, Lx.isKey z = true ∧ Lx.isKey (z ++ [32]) = false ∧ Lx.isKey (z ++ [120]) = false ∧ z.length ≤ 9 := by decide +kernel

set_option maxHeartbeats 2000000 in
theorem walk (a0 : ByteArray) (a1 : Int) (w : World) (w0 : a0.size ≤ maxLen) (w1 : (Lit.int .u8 a1).wf = true) :
    Calls Try.prog 3 #[.string a0, .int .u8 a1] w fun e w' => e = .returned (.bool true) ∧ Below w.heap.size w w' := by
  obtain ⟨l0, l1⟩ := bounds_u8 w1
  obtain ⟨k, hk⟩ : ∃ k : Nat, a1 % 32 = k := ⟨(a1 % 32).toNat, by omega⟩
  have hk32 : k < 32 := by omega
  obtain ⟨z, hz⟩ : ∃ z, Lx.keys[k]? = some z := ⟨_, List.getElem?_eq_getElem (show k < Lx.keys.length from hk32)⟩
  obtain ⟨f1, f2, f3, f4⟩ := keys_facts z (List.mem_of_getElem? hz)
  obtain ⟨d, hd⟩ : ∃ d : ByteArray, d = ⟨z.toArray⟩ := ⟨_, rfl⟩
  have H1 := Lib.hid (show Lx.isKey d.data.toList = true by rw [hd]; exact f1)
  have g2 : Lx.isKey (d.data.toList ++ [32]) = false := by rw [hd]; exact f2
  have g3 : Lx.isKey (d.data.toList ++ [120]) = false := by rw [hd]; exact f3
  have HD := Lib.hid hd
  have HZ := Lib.hid hz
  have hdl : d.size ≤ 9 := by rw [hd, size_list]; exact f4
  clear f4 f1 f2 f3 hd hz
  go_enter Try.func3, Try.ntmps3
  go_wp2_with (first
    | (go_at_call 6; refine (keys_any _).mono ?_; rintro e w2 ⟨rfl, hkk, hb⟩; have hcell := (hkk k z HZ.out); rw [← HD.out] at hcell; clear hkk)
    | (go_at_call 7; refine (awake_any _).mono ?_; rintro e w3 ⟨rfl, hb2⟩)
    | (go_at_call 8; refine (isKey_any _ _).mono ?_; rintro e w' ⟨rfl, rfl⟩; try rw [H1.out])
    | (go_at_call 9; refine (rIsKey_any _ _).mono ?_; rintro e w4 ⟨rfl, hb3⟩))
  go_ret
  exact ⟨rfl, hb.trans ((hb2.mono hb.size).trans (hb3.mono (Nat.le_trans hb.size hb2.size)))⟩

theorem contract (H : Type) (enc : TypeId × Value → H) (W : World) (base : Nat) (args : Array Value) (ds gs : List (DataW H)) (before : List MemPlace)
    (hval : ∀ (j : Nat) t v, Try.f3.params[j]? = some t → args[j]? = some v → Value.okWide Try.prog W .any base t v)
    (hW : DataW.Whole enc Try.prog Try.f3.params.toList Rows.lexKeysSpec.vars false W args.toList ds gs before) :
    Calls Try.prog 3 args W fun e W' => ∃ v, e = .returned v ∧ Rows.lexKeysSpec.post enc Try.prog Try.f3 false true false false W args v W' := by
  have hW' := hW
  obtain ⟨p, q, hA0, hV, rfl, hfz, hnd⟩ := hW
  have hA : DataW.TrodAll enc Try.prog W 0 (fun _ => true) true Try.f3.params.toList args.toList ds p := hA0
  rw [Try.params3] at hA hval
  obtain ⟨v0, vs0, d0, ds0, p0, q0, hargs, rfl, rfl, h0, r0⟩ := trodAll_cons hA
  obtain ⟨v1, vs1, d1, ds1, p1, q1, rfl, rfl, rfl, h1, r1⟩ := trodAll_cons r0
  obtain ⟨rfl, rfl, rfl⟩ := trodAll_nil r1
  obtain rfl : args = #[v0, v1] := by cases args; simp_all
  obtain ⟨rfl, rfl⟩ := trodVars_none hV
  obtain ⟨a0, rfl, rfl, rfl, w0⟩ := open_string Try.underlying9 (hval 0 9 v0 rfl rfl) h0
  obtain ⟨a1, rfl, rfl, rfl, w1⟩ := open_int Try.underlying5 (hval 1 5 v1 rfl rfl) h1
  clear hA0
  simp only [List.append_nil] at hW'
  refine (walk a0 a1 W w0 w1).mono fun e W' ⟨he, bel⟩ => ?_
  subst he
  exact ⟨_, rfl, _, _, _, [], _, [], hW', trodAll_mk1 (shut_bool Try.underlying4 _), (trodAll_cons_mk (shut_string Try.underlying9 w0) (trodAll_cons_mk (shut_int Try.underlying5 w1) trodAll_mk0)), rfl, bel.frame _, fun h => by cases h⟩

set_option maxRecDepth 100000 in
theorem lifted (os : Os) (started : os.Started) (H : Type) (enc : TypeId × Value → H) :
    ReturnsInHanded {} Try.checked os 3 .any (Rows.lexKeysSpec.pre6 enc Try.prog Try.f3 Rows.lexKeysRow.domain false) (Rows.lexKeysSpec.post enc Try.prog Try.f3 false true false false) := by
  refine returnsInHanded_of_change (C := Try.checked) own started (by kernel_rfl) Try.func3
    (ChangeSpec.witness6 (enc := enc) (C := Try.checked) false ⟨#[], #[.string ByteArray.empty, .int .u8 0], []⟩ 8 (by kernel_rfl) (by kernel_rfl) (by kernel_rfl) (by kernel_rfl)) ?_
  intro W base args ds gs before hval hW hcnd _
  exact contract H enc W base args ds gs before hval hW

theorem over : Rows.lexKeysRow.holds Try.pinned (OpenSpec.ofChange Rows.lexKeysSpec) :=
  OpenClaim.holds_of_wide 3 Try.f3 rfl rfl rfl rfl rfl rfl rfl ⟨rfl, rfl, rfl, rfl, rfl⟩ rfl rfl rfl rfl rfl (by kernel_rfl) Try.func3 (by kernel_rfl)
    (of_decide_eq_true (by kernel_rfl)) (by unfold Func.isWrapper; first | (rw [if_pos (by decide +kernel)]; kernel_rfl) | (rw [if_neg (by decide +kernel)]; exact ⟨rfl, rfl⟩))
    (fun os started H enc _ => lifted os started H enc)

theorem proved : Rows.LexKeysSaid := over
#print axioms proved
end Go.Proofs.Ytkamkfakokhocaa.lexKeys
