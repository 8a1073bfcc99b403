/-
  For any two 32-bit numbers the quotient times the divisor and the remainder are the number, and the remainder is smaller and of its sign: NumsParts returns true. No condition.
-/
import Derived.Test.YtmcolabnbchpaaaNums
import Derived.WalkKit
import Derived.ProofKit
import Derived.OpenShut
namespace Go.Proofs.Ytmcolabnbchpaaa.numsParts
open Go.ChangeShapes Go.WideShapes Go.ChangeAt Go.RowKit
set_option linter.unusedVariables false      -- a walk need not use every 'w<i>' (that an integer argument fits its kind)

theorem own : ownKnob Try.prog.godebug = none := by kernel_rfl

theorem parts (a b : Int) (a1 : -2147483648 ≤ a) (a2 : a ≤ 2147483647) (b1 : -2147483648 ≤ b) (b2 : b ≤ 2147483647) (hb : ¬ b = 0) :
    ∃ q p m : Int, binI 6 a b = q ∧ binI 5 q b = p ∧ binI 7 a b = m ∧ binI 3 p m = a ∧ m.natAbs < b.natAbs ∧ (m = 0 ∨ (m < 0 ∧ a < 0) ∨ (0 < m ∧ 0 ≤ a)) := by
  refine ⟨_, _, _, rfl, rfl, rfl, ?_, ?_, ?_⟩
  · have h := Int.mul_tdiv_add_tmod a b
    have e6 : binI 6 a b = wrap32 (a.tdiv b) := by simp [binI, hb]
    have e7 : binI 7 a b = a.tmod b := by simp [binI, hb]
    rw [e6, e7]
    have e5 : ∀ x, binI 5 x b = wrap32 (x * b) := fun x => by simp [binI]
    have e3 : ∀ x y, binI 3 x y = wrap32 (x + y) := fun x y => by simp [binI]
    rw [e5, e3, wrap32_mul_add, Int.mul_comm, h]
    exact IntWalk.wrap32_in a ⟨a1, a2⟩
  · have e7 : binI 7 a b = a.tmod b := by simp [binI, hb]
    rw [e7, Int.natAbs_tmod]
    exact Nat.mod_lt _ (by omega)
  · have e7 : binI 7 a b = a.tmod b := by simp [binI, hb]
    rw [e7]
    rcases Int.lt_trichotomy a 0 with h | h | h
    · have := Int.tmod_nonneg b (a := -a) (by omega)
      rw [Int.neg_tmod] at this
      omega
    · subst h; simp
    · have := Int.tmod_nonneg b (a := a) (by omega)
      omega

/-! ### STEP 1: THE WALK: the Go text returns true. 'Grown w w'': the world has at most new blocks (Derived/RowKit3.lean). Part the cases AHEAD of 'go_enter' where a test parts the walk; take each callee by a contract of your own. -/
theorem walk (a0 : Int) (a1 : Int) (w0 : (Lit.int .i32 a0).wf = true) (w1 : (Lit.int .i32 a1).wf = true) (w : World) :
    Calls Try.prog 5 #[.int .i32 a0, .int .i32 a1] w fun e w' => e = .returned (.bool true) ∧ Grown w w' := by
  obtain ⟨a1l, a1h⟩ := bounds_i32 w0
  obtain ⟨b1l, b1h⟩ := bounds_i32 w1
  by_cases hb : a1 = 0
  · subst hb
    have e1 : binI 6 a0 0 = 0 := by simp [binI]
    have e2 : binI 7 a0 0 = 0 := by simp [binI]
    go_enter Try.func5, Try.ntmps5
    go_wp2_with (first | (go_at_call 8; refine (awake_any _).mono ?_; rintro e w' ⟨rfl, rfl⟩) | (go_at_call 9; refine (bin_any _ _ _ _).mono ?_; rintro e w' ⟨rfl, rfl⟩))
    go_ret
    exact ⟨rfl, Grown.refl _⟩
  · obtain ⟨q, p, m, hq, hp, hm, hs, hlt, hsg⟩ := parts a0 a1 a1l a1h b1l b1h hb
    have hb2 : (a1 == 0) = false := by simp [hb]
    rcases hsg with h0 | ⟨h1, h2⟩ | ⟨h1, h2⟩
    · subst h0
      rcases (show a1 < 0 ∨ 0 < a1 by omega) with g | g
      all_goals
        go_enter Try.func5, Try.ntmps5
        go_wp2_with (first | (go_at_call 8; refine (awake_any _).mono ?_; rintro e w' ⟨rfl, rfl⟩) | (go_at_call 9; refine (bin_any _ _ _ _).mono ?_; rintro e w' ⟨rfl, rfl⟩))
        go_ret
        exact ⟨by first | (simp; done) | (simp; omega), Grown.refl _⟩
    all_goals
      have hm0 : (m == 0) = false := by simp; omega
      rcases (show a1 < 0 ∨ 0 < a1 by omega) with g | g
      all_goals
        go_enter Try.func5, Try.ntmps5
        go_wp2_with (first | (go_at_call 8; refine (awake_any _).mono ?_; rintro e w' ⟨rfl, rfl⟩) | (go_at_call 9; refine (bin_any _ _ _ _).mono ?_; rintro e w' ⟨rfl, rfl⟩))
        go_ret
        exact ⟨by first | (simp; done) | (simp; omega), Grown.refl _⟩

/-! ### THE ROW's STEP: WRITTEN OUT: LEAVE IT -/
set_option maxRecDepth 100000 in
theorem lifted (os : Os) (started : os.Started) (H : Type) (enc : TypeId × Value → H) :
    ReturnsInHanded {} Try.checked os 5 .any (Rows.numsPartsSpec.pre6 enc Try.prog Try.f5 Rows.numsPartsRow.domain false) (Rows.numsPartsSpec.post enc Try.prog Try.f5 false true false false) := by
  refine returnsInHanded_of_change (C := Try.checked) own started (by kernel_rfl) Try.func5
    (ChangeSpec.witness6 (enc := enc) (C := Try.checked) false ⟨#[], #[.int .i32 0, .int .i32 0], []⟩ 8 (by kernel_rfl) (by kernel_rfl) (by kernel_rfl) (by kernel_rfl)) ?_
  intro W base args ds gs before hval0 hW hcnd _
  have hval : ∀ (j : Nat) t v, Try.f5.params[j]? = some t → args[j]? = some v → Value.okWide Try.prog W .any base t v := hval0
  have hW' := hW
  obtain ⟨p, q, hA0, hV, rfl, hfz, hnd⟩ := hW
  have hA : DataW.TrodAll enc Try.prog W 0 (fun _ => true) true Try.f5.params.toList args.toList ds p := hA0
  rw [Try.params5] at hA hval
  obtain ⟨v0, vs0, d0, ds0, p0, q0, hargs, rfl, rfl, h0, r0⟩ := trodAll_cons hA
  obtain ⟨v1, vs1, d1, ds1, p1, q1, rfl, rfl, rfl, h1, r1⟩ := trodAll_cons r0
  obtain ⟨rfl, rfl, rfl⟩ := trodAll_nil r1
  obtain rfl : args = #[v0, v1] := by cases args; simp_all
  obtain ⟨rfl, rfl⟩ := trodVars_none hV
  obtain ⟨a0, rfl, rfl, rfl, w0⟩ := open_int Try.underlying21 (hval 0 21 v0 rfl rfl) h0
  obtain ⟨a1, rfl, rfl, rfl, w1⟩ := open_int Try.underlying21 (hval 1 21 v1 rfl rfl) h1
  clear hA0 hval0
  simp only [List.append_nil] at hW'
  refine (walk a0 a1 w0 w1 W).mono fun e W' ⟨he, hg⟩ => ?_
  subst he
  exact ⟨_, rfl, post_of_same (pa := []) (pv := []) hW' (fun _ _ _ => (trodAll_cons_mk (shut_bool Try.underlying4 _) trodAll_mk0)) (fun sp _ => (trodAll_cons_mk (shut_int Try.underlying21 w0) (trodAll_cons_mk (shut_int Try.underlying21 w1) trodAll_mk0))) (fun _ _ => rfl) rfl
    (hg.frame _) hg.2.1 (ok_one (by kernel_rfl) rfl (okWide_bool_mk Try.underlying4 _))⟩

theorem over : Rows.numsPartsRow.holds Try.pinned (OpenSpec.ofChange Rows.numsPartsSpec) :=
  OpenClaim.holds_of_wide 5 Try.f5 rfl rfl rfl rfl rfl rfl rfl ⟨rfl, rfl, rfl, rfl, rfl⟩ rfl rfl rfl rfl rfl (by kernel_rfl) Try.func5 (by kernel_rfl)
    (of_decide_eq_true (by kernel_rfl)) (by unfold Func.isWrapper; first | (rw [if_pos (by decide +kernel)]; kernel_rfl) | (rw [if_neg (by decide +kernel)]; exact ⟨rfl, rfl⟩))
    (fun os started H enc _ => lifted os started H enc)

/-- ████ THE STATEMENT ████ -/
theorem proved : Rows.NumsPartsSaid :=
  over
#print axioms proved
end Go.Proofs.Ytmcolabnbchpaaa.numsParts
