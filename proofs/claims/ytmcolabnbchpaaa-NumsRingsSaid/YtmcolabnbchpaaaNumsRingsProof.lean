/-
  Sums and products of any 32-bit numbers are alike in whichever order, with wraparound: NumsRings returns true. No condition.
-/
import Derived.Test.YtmcolabnbchpaaaNums
import Derived.WalkKit
import Derived.ProofKit
import Derived.OpenShut
namespace Go.Proofs.Ytmcolabnbchpaaa.numsRings
open Go.ChangeShapes Go.WideShapes Go.ChangeAt Go.RowKit
set_option linter.unusedVariables false      -- a walk need not use every 'w<i>' (that an integer argument fits its kind)

theorem own : ownKnob Try.prog.godebug = none := by kernel_rfl

theorem rings (a b c : Int) (a1 : -2147483648 ≤ a) (a2 : a ≤ 2147483647) : ∃ ab abc cb x ca cb2 na : Int, binI 3 a b = ab ∧ binI 3 ab c = abc ∧ binI 3 c b = cb ∧ binI 3 a cb = abc ∧ binI 5 ab c = x ∧ binI 5 c a = ca ∧ binI 5 c b = cb2 ∧ binI 3 ca cb2 = x ∧ binI 4 ab b = a ∧ unI 2 a = na ∧ binI 3 a na = 0 := by
  have e3 : ∀ x y, binI 3 x y = wrap32 (x + y) := fun x y => by simp [binI]
  have e4 : ∀ x y, binI 4 x y = wrap32 (x - y) := fun x y => by simp [binI]
  have e5 : ∀ x y, binI 5 x y = wrap32 (x * y) := fun x y => by simp [binI]
  have e2 : unI 2 a = wrap32 (-a) := by simp [unI]
  refine ⟨_, _, _, _, _, _, _, rfl, rfl, rfl, ?_, rfl, rfl, rfl, ?_, ?_, rfl, ?_⟩
  · simp only [e3]; unfold wrap32; omega
  · simp only [e3, e5]
    obtain ⟨k, hk⟩ := wrap32_emod (c * a)
    obtain ⟨l, hl⟩ := wrap32_emod (c * b)
    obtain ⟨m, hm⟩ := wrap32_emod (a + b)
    rw [hk, hl, hm, show c * a + 4294967296 * k + (c * b + 4294967296 * l) = c * a + c * b + 4294967296 * (k + l) by omega, wrap32_shift, Int.add_mul, Int.mul_assoc, wrap32_shift, Int.add_mul, Int.mul_comm a c, Int.mul_comm b c]
  · simp only [e3, e4]
    obtain ⟨m, hm⟩ := wrap32_emod (a + b)
    rw [hm, show a + b + 4294967296 * m - b = a + 4294967296 * m by omega, wrap32_shift]
    exact IntWalk.wrap32_in a ⟨a1, a2⟩
  · simp only [e3, e2]; unfold wrap32; omega

/-! ### STEP 1: THE WALK: the Go text returns true. 'Grown w w'': the world has at most new blocks (Derived/RowKit3.lean). Part the cases AHEAD of 'go_enter' where a test parts the walk; take each callee by a contract of your own. -/
theorem walk (a0 : Int) (a1 : Int) (a2 : Int) (w0 : (Lit.int .i32 a0).wf = true) (w1 : (Lit.int .i32 a1).wf = true) (w2 : (Lit.int .i32 a2).wf = true) (w : World) :
    Calls Try.prog 7 #[.int .i32 a0, .int .i32 a1, .int .i32 a2] w fun e w' => e = .returned (.bool true) ∧ Grown w w' := by
  obtain ⟨b1l, b1h⟩ := bounds_i32 w0
  obtain ⟨ab, abc, cb, x, ca, cb2, na, e1, e2, e3, e4, e5, e6, e7, e8, e9, e10, e11⟩ := rings a0 a1 a2 b1l b1h
  go_enter Try.func7, Try.ntmps7
  go_wp2_with (first | (go_at_call 8; refine (awake_any _).mono ?_; rintro e w' ⟨rfl, rfl⟩) | (go_at_call 9; refine (bin_any _ _ _ _).mono ?_; rintro e w' ⟨rfl, rfl⟩) | (go_at_call 11; refine (un_any _ _ _).mono ?_; rintro e w' ⟨rfl, rfl⟩))
  go_ret
  exact ⟨rfl, Grown.refl _⟩

/-! ### THE ROW's STEP: WRITTEN OUT: LEAVE IT -/
set_option maxRecDepth 100000 in
theorem lifted (os : Os) (started : os.Started) (H : Type) (enc : TypeId × Value → H) :
    ReturnsInHanded {} Try.checked os 7 .any (Rows.numsRingsSpec.pre6 enc Try.prog Try.f7 Rows.numsRingsRow.domain false) (Rows.numsRingsSpec.post enc Try.prog Try.f7 false true false false) := by
  refine returnsInHanded_of_change (C := Try.checked) own started (by kernel_rfl) Try.func7
    (ChangeSpec.witness6 (enc := enc) (C := Try.checked) false ⟨#[], #[.int .i32 0, .int .i32 0, .int .i32 0], []⟩ 8 (by kernel_rfl) (by kernel_rfl) (by kernel_rfl) (by kernel_rfl)) ?_
  intro W base args ds gs before hval0 hW hcnd _
  have hval : ∀ (j : Nat) t v, Try.f7.params[j]? = some t → args[j]? = some v → Value.okWide Try.prog W .any base t v := hval0
  have hW' := hW
  obtain ⟨p, q, hA0, hV, rfl, hfz, hnd⟩ := hW
  have hA : DataW.TrodAll enc Try.prog W 0 (fun _ => true) true Try.f7.params.toList args.toList ds p := hA0
  rw [Try.params7] at hA hval
  obtain ⟨v0, vs0, d0, ds0, p0, q0, hargs, rfl, rfl, h0, r0⟩ := trodAll_cons hA
  obtain ⟨v1, vs1, d1, ds1, p1, q1, rfl, rfl, rfl, h1, r1⟩ := trodAll_cons r0
  obtain ⟨v2, vs2, d2, ds2, p2, q2, rfl, rfl, rfl, h2, r2⟩ := trodAll_cons r1
  obtain ⟨rfl, rfl, rfl⟩ := trodAll_nil r2
  obtain rfl : args = #[v0, v1, v2] := by cases args; simp_all
  obtain ⟨rfl, rfl⟩ := trodVars_none hV
  obtain ⟨a0, rfl, rfl, rfl, w0⟩ := open_int Try.underlying21 (hval 0 21 v0 rfl rfl) h0
  obtain ⟨a1, rfl, rfl, rfl, w1⟩ := open_int Try.underlying21 (hval 1 21 v1 rfl rfl) h1
  obtain ⟨a2, rfl, rfl, rfl, w2⟩ := open_int Try.underlying21 (hval 2 21 v2 rfl rfl) h2
  clear hA0 hval0
  simp only [List.append_nil] at hW'
  refine (walk a0 a1 a2 w0 w1 w2 W).mono fun e W' ⟨he, hg⟩ => ?_
  subst he
  exact ⟨_, rfl, post_of_same (pa := []) (pv := []) hW' (fun _ _ _ => (trodAll_cons_mk (shut_bool Try.underlying4 _) trodAll_mk0)) (fun sp _ => (trodAll_cons_mk (shut_int Try.underlying21 w0) (trodAll_cons_mk (shut_int Try.underlying21 w1) (trodAll_cons_mk (shut_int Try.underlying21 w2) trodAll_mk0)))) (fun _ _ => rfl) rfl
    (hg.frame _) hg.2.1 (ok_one (by kernel_rfl) rfl (okWide_bool_mk Try.underlying4 _))⟩

theorem over : Rows.numsRingsRow.holds Try.pinned (OpenSpec.ofChange Rows.numsRingsSpec) :=
  OpenClaim.holds_of_wide 7 Try.f7 rfl rfl rfl rfl rfl rfl rfl ⟨rfl, rfl, rfl, rfl, rfl⟩ rfl rfl rfl rfl rfl (by kernel_rfl) Try.func7 (by kernel_rfl)
    (of_decide_eq_true (by kernel_rfl)) (by unfold Func.isWrapper; first | (rw [if_pos (by decide +kernel)]; kernel_rfl) | (rw [if_neg (by decide +kernel)]; exact ⟨rfl, rfl⟩))
    (fun os started H enc _ => lifted os started H enc)

/-- ████ THE STATEMENT ████ -/
theorem proved : Rows.NumsRingsSaid :=
  over
#print axioms proved
end Go.Proofs.Ytmcolabnbchpaaa.numsRings
