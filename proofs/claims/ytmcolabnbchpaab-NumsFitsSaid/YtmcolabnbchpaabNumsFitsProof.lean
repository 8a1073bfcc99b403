/-
  A constructor's place is found, and which numbers are values of a type is told right: NumsFits returns true. No condition.
-/
import Derived.Test.YtmcolabnbchpaabNumsUn
import Derived.WalkKit
import Derived.ProofKit
import Derived.OpenShut
import Derived.ShutString
import Derived.ChangeOld
import Derived.Below
import Derived.SliceStrings
import Derived.Lib.SmallJoins
import Derived.Lib.Hide
import Derived.WalkSpells
namespace Go.Proofs.Ytmcolabnbchpaab.numsFits
open Go.ChangeShapes Go.WideShapes Go.ChangeAt Go.RowKit
open Go.ChangeMaps (open_string shut_string)
open Go.Joins
set_option linter.unusedVariables false

theorem own : ownKnob Try.prog.godebug = none := by kernel_rfl
theorem laidOut : laidOutB Try.prog = true := by kernel_rfl

/-- What is known of a slice of strings that came in. -/
def IsStrs (w : World) (a : Option Addr) (len cap : Nat) (zs : List ByteArray) : Prop :=
  (a = none ∧ len = 0 ∧ cap = 0 ∧ zs = []) ∨
  ∃ x, a = some x ∧ len ≤ cap ∧ cap ≤ maxLen ∧ zs.length = cap ∧ (∀ i, i < zs.length → w.cell? (x.add i) = some (.string (zs.getD i ByteArray.empty))) ∧ ∀ s ∈ zs, s.size ≤ maxLen

/-- The first place at or behind i at which c stands, 'fuel' places long; below 0: it isn't there. -/
def fx (ss : List ByteArray) (c : ByteArray) : Nat → Nat → Int
  | 0, _ => -1
  | k + 1, i => if (c.toList == (ss.getD i ByteArray.empty).toList) = true then (i : Int) else fx ss c k (i + 1)

theorem fx_bd (ss : List ByteArray) (c : ByteArray) : ∀ k i, fx ss c k i = -1 ∨ (i : Int) ≤ fx ss c k i ∧ fx ss c k i < i + k
  | 0, i => .inl rfl
  | k + 1, i => by
    unfold fx
    split
    · right; omega
    · have := fx_bd ss c k (i + 1); omega
theorem fx_hit (ss : List ByteArray) (c : ByteArray) (len i : Nat) (h : i < len) (he : (c.toList == (ss.getD i ByteArray.empty).toList) = true) : fx ss c (len - i) i = i := by
  obtain ⟨k, hk⟩ : ∃ k, len - i = k + 1 := ⟨len - i - 1, by omega⟩
  rw [hk, fx, if_pos he]
theorem fx_miss (ss : List ByteArray) (c : ByteArray) (len i : Nat) (h : i < len) (he : (c.toList == (ss.getD i ByteArray.empty).toList) = false) : fx ss c (len - i) i = fx ss c (len - (i + 1)) (i + 1) := by
  obtain ⟨k, hk⟩ : ∃ k, len - i = k + 1 := ⟨len - i - 1, by omega⟩
  rw [hk, fx, if_neg (by rw [he]; simp), show len - (i + 1) = k by omega]

set_option maxHeartbeats 1000000 in
theorem sidx_any (b off len cap : Nat) (ss : List ByteArray) (c : ByteArray) (w : World) (hl : len ≤ ss.length) (hbig : len ≤ 1000000)
    (hc : ∀ j, j < ss.length → w.cell? ⟨b, off + j, none⟩ = some (.string (ss.getD j ByteArray.empty))) :
    Calls Try.prog 12 #[.slice (some ⟨b, off, none⟩) len cap, .string c] w fun e w' => e = .returned (.int .i64 (fx ss c len 0)) ∧ w = w' := by
  go_enter Try.func12, Try.ntmps12
  go_wp2
  go_loop [8, 5] (fun i _ => ∃ k : Nat, i = .int .i64 k ∧ k ≤ len ∧ fx ss c (len - k) k = fx ss c len 0) (fun i _ => len - (intOf i).toNat)
  case atStart => exact ⟨0, rfl, by omega, rfl⟩
  case round =>
    obtain ⟨k, rfl, hk, hf⟩ := hrel
    have Hf := Lib.hid hf
    clear hf
    by_cases hlt : k < len
    · have hcell := hc k (by omega)
      clear hc
      have HH := Lib.hid (fx_hit ss c len k hlt)
      have HM := Lib.hid (fx_miss ss c len k hlt)
      go_wp2
      · go_ret
        exact ⟨ret_int (by rw [← Hf.out]; exact (HH.out (by assumption)).symm), rfl⟩
      · go_round
        case rel => exact ⟨k + 1, by go_num, by omega, by rw [← Hf.out]; exact (HM.out (by assumption)).symm⟩
        case measure => simp [intOf]; omega
    · go_wp2
      go_ret
      exact ⟨ret_int (by rw [← Hf.out, show len - k = 0 by omega]; rfl), rfl⟩

theorem sidx_nil (a : Option Addr) (cap : Nat) (c : ByteArray) (w : World) :
    Calls Try.prog 12 #[.slice a 0 cap, .string c] w fun e w' => e = .returned (.int .i64 (-1)) ∧ w = w' := by
  go_enter Try.func12, Try.ntmps12
  go_wp2
  refine wp_loop_rounds 1 ?_
  rw [rounds_succ]
  go_wp2
  go_ret
  exact ⟨rfl, rfl⟩

theorem idx_nil (a : Option Addr) (cap : Nat) (c : ByteArray) (w : World) :
    Calls Try.prog 8 #[.slice a 0 cap, .string c] w fun e w' => e = .returned (.int .i32 (-1)) ∧ w = w' := by
  go_enter Try.func8, Try.ntmps8
  go_wp2_with (go_at_call 12; refine (sidx_nil _ _ _ _).mono ?_; rintro e w' ⟨rfl, rfl⟩)
  go_ret
  exact ⟨rfl, rfl⟩

theorem idx_any (b off len cap : Nat) (ss : List ByteArray) (c : ByteArray) (w : World) (hl : len ≤ ss.length) (hbig : len ≤ 1000000)
    (hc : ∀ j, j < ss.length → w.cell? ⟨b, off + j, none⟩ = some (.string (ss.getD j ByteArray.empty))) :
    Calls Try.prog 8 #[.slice (some ⟨b, off, none⟩) len cap, .string c] w fun e w' => e = .returned (.int .i32 (fx ss c len 0)) ∧ w = w' := by
  have hb := fx_bd ss c len 0
  have h1 : -1 ≤ fx ss c len 0 := by omega
  have h2 : fx ss c len 0 ≤ 1000000 := by omega
  clear hb
  have HC := Lib.hid hc
  clear hc
  go_enter Try.func8, Try.ntmps8
  go_wp2_with (go_at_call 12; refine (sidx_any b off len cap ss c _ hl hbig HC.out).mono ?_; rintro e w' ⟨rfl, rfl⟩)
  go_ret
  exact ⟨rfl, rfl⟩

theorem ret_val {k : IntKind} {a b : Int} (h : a = b) : Value.int k a = .int k b := by rw [h]
def fitsB (k ctors n : Int) : Bool := if k == 2 then true else if k == 1 then n == 0 || n == 1 else if k == 3 then decide (0 ≤ n) && decide (n < ctors) else false

theorem fits_any (k ctors n : Int) (nm : ByteArray) (w : World) (n1 : -2147483648 ≤ n) (n2 : n ≤ 2147483647) :
    Calls Try.prog 9 #[.agg #[.int .u8 k, .string nm], .int .i64 ctors, .int .i32 n] w fun e w' => e = .returned (.bool (fitsB k ctors n)) ∧ Below w.heap.size w w' := by
  go_enter Try.func9, Try.ntmps9
  go_wp2
  all_goals go_ret
  all_goals exact ⟨ret_bool (by first | (simp [fitsB, *]; done) | (simp [fitsB, *]; omega)), (Below.refl _ _).alloc (Nat.le_refl _) _⟩

set_option maxHeartbeats 2000000 in
theorem walk (a0 : Option Addr) (len0 cap0 : Nat) (z0 : List ByteArray) (a1 : ByteArray) (a2 : Int) (a3 : ByteArray) (a4 : Int) (w : World) (w0 : IsStrs w a0 len0 cap0 z0) (w1 : a1.size ≤ maxLen) (w2 : (Lit.int .u8 a2).wf = true) (w3 : a3.size ≤ maxLen) (w4 : (Lit.int .i32 a4).wf = true) :
    Calls Try.prog 4 #[.slice a0 len0 cap0, .string a1, .int .u8 a2, .string a3, .int .i32 a4] w fun e w' => e = .returned (.bool true) ∧ Below w.heap.size w w' := by
  obtain ⟨k1, k2⟩ := bounds_u8 w2
  obtain ⟨n1, n2⟩ := bounds_i32 w4
  obtain ⟨kk, hkk⟩ : ∃ kk : Int, kk = a2 % 5 := ⟨_, rfl⟩
  have kk1 : 0 ≤ kk := by omega
  have kk2 : kk ≤ 4 := by omega
  have hk : a2 % 5 = kk := hkk.symm
  clear hkk
  have f2 : ∀ c n, fitsB 2 c n = true := fun c n => by simp [fitsB]
  have f1 : ∀ c n, fitsB 1 c n = (n == 0 || n == 1) := fun c n => by simp [fitsB]
  have f3 : ∀ c n, fitsB 3 c n = (decide (0 ≤ n) && decide (n < c)) := fun c n => by simp [fitsB]
  have f0 : ∀ c n, ¬ kk = 2 → ¬ kk = 1 → ¬ kk = 3 → fitsB kk c n = false := fun c n g2 g1 g3 => by simp [fitsB, g2, g1, g3]
  by_cases hbig : 100 < len0
  · have h0 : (100 : Int) < (len0 : Int) := by omega
    go_enter Try.func4, Try.ntmps4
    go_wp2_with (go_at_call 6; refine (awake_any _).mono ?_; rintro e w' ⟨rfl, rfl⟩)
    go_ret
    exact ⟨rfl, Below.refl _ _⟩
  by_cases hz0 : len0 = 0
  · subst hz0
    clear hbig w0
    go_enter Try.func4, Try.ntmps4
    go_wp2_with (go_at_call 6; refine (awake_any _).mono ?_; rintro e w' ⟨rfl, rfl⟩)
    refine wp_loop_rounds 1 ?_
    rw [rounds_succ]
    go_wp2_with (first | (go_at_call 8; refine (idx_nil _ _ _ _).mono ?_; rintro e w' ⟨rfl, rfl⟩) | (go_at_call 9; refine (fits_any _ _ _ _ _ (by omega) (by omega)).mono ?_; rintro e w' ⟨rfl, hb⟩; first | (have hB1 : Below w.heap.size w w' := (((Below.refl _ _).alloc (Nat.le_refl _) _).trans (hb.mono (by simp)))) | (have hB2 : Below w.heap.size w w' := hB1.trans (hb.mono (by have := hB1.size; omega)))))
    all_goals go_ret
    all_goals refine ⟨ret_bool ?_, hB1⟩
    all_goals first | rfl | (simp [*]; done) | (simp; omega)
  · rcases w0 with ⟨rfl, rfl, rfl, rfl⟩ | ⟨x, rfl, hl, hm, hz, hcell, _⟩
    · exact absurd rfl hz0
    · obtain ⟨b, off, spot⟩ := x
      have hspot : spot = none := by simpa [Addr.add] using World.cell?_spot (hcell 0 (by omega))
      subst hspot
      have hc : ∀ j, j < z0.length → w.cell? ⟨b, off + j, none⟩ = some (.string (z0.getD j ByteArray.empty)) := fun j hj => by rw [← add_plain]; exact hcell j hj
      have HC := Lib.hid hc
      clear hc hcell hm
      have hb := fx_bd z0 a1 len0 0
      have x1 : -1 ≤ fx z0 a1 len0 0 := by omega
      have x2 : fx z0 a1 len0 0 < len0 := by omega
      clear hb
      go_enter Try.func4, Try.ntmps4
      go_wp2_with (go_at_call 6; refine (awake_any _).mono ?_; rintro e w' ⟨rfl, rfl⟩)
      go_loop [11, 12] (fun at_ i => ∃ k : Nat, i = .int .i64 ((k : Int) - 1) ∧ at_ = .int .i32 (fx z0 a1 (len0 - k) k) ∧ k ≤ len0) (fun _ i => (intOf i + 1).toNat)
      case atStart => exact ⟨len0, by go_num, by rw [Nat.sub_self]; rfl, Nat.le_refl _⟩
      case round =>
        obtain ⟨k, rfl, rfl, hk'⟩ := hrel
        cases k with
        | zero =>
          go_wp2_with (first | (go_at_call 8; refine (idx_any _ _ _ _ _ _ _ (by omega) (by omega) (fun j hj => cell_later ((Below.refl _ _).alloc (Nat.le_refl _) _) (HC.out j hj))).mono ?_; rintro e w' ⟨rfl, rfl⟩) | (go_at_call 9; refine (fits_any _ _ _ _ _ (by omega) (by omega)).mono ?_; rintro e w' ⟨rfl, hb⟩; first | (have hB1 : Below w.heap.size w w' := (((Below.refl _ _).alloc (Nat.le_refl _) _).trans (hb.mono (by simp)))) | (have hB2 : Below w.heap.size w w' := hB1.trans (hb.mono (by have := hB1.size; omega)))))
          all_goals go_ret
          all_goals refine ⟨ret_bool ?_, by first | exact hB2 | exact hB1⟩
          all_goals first | rfl | (simp [*]; done) | (simp; omega)
        | succ m =>
          have hmi : ((m + 1 : Nat) : Int) - 1 = (m : Int) := by omega
          rw [hmi]
          have hcell := HC.out m (by omega)
          have HH := Lib.hid (fx_hit z0 a1 len0 m (by omega))
          have HM := Lib.hid (fx_miss z0 a1 len0 m (by omega))
          clear hmi
          rcases hv : (a1.toList == (z0.getD m ByteArray.empty).toList) with _ | _
          · have hv2 : ((z0[m]?.getD ByteArray.empty).toList == a1.toList) = false := by rw [← hv]; exact Bool.beq_comm ..
            have hm2 := Lib.hid (HM.out hv)
            clear hv
            go_wp2
            go_round
            case rel => (refine ⟨m, rfl, ?_, by omega⟩; first | rfl | exact ret_val hm2.out.symm | exact ret_val hm2.out)
            case measure => first | (simp [intOf]; done) | (simp [intOf]; omega)
          · have hv2 : ((z0[m]?.getD ByteArray.empty).toList == a1.toList) = true := by rw [← hv]; exact Bool.beq_comm ..
            have hm2 := Lib.hid (HH.out hv)
            clear hv
            go_wp2
            go_round
            case rel => (refine ⟨m, rfl, ?_, by omega⟩; first | rfl | exact ret_val hm2.out.symm | exact ret_val hm2.out)
            case measure => first | (simp [intOf]; done) | (simp [intOf]; omega)

theorem contract (H : Type) (enc : TypeId × Value → H) (W : World) (base : Nat) (args : Array Value) (ds gs : List (DataW H)) (before : List MemPlace)
    (hval : ∀ (j : Nat) t v, Try.f4.params[j]? = some t → args[j]? = some v → Value.okWide Try.prog W .any base t v)
    (hW : DataW.Whole enc Try.prog Try.f4.params.toList Rows.numsFitsSpec.vars false W args.toList ds gs before) :
    Calls Try.prog 4 args W fun e W' => ∃ v, e = .returned v ∧ Rows.numsFitsSpec.post enc Try.prog Try.f4 false true false false W args v W' := by
  have hW' := hW
  obtain ⟨p, q, hA0, hV, rfl, hfz, hnd⟩ := hW
  have hA : DataW.TrodAll enc Try.prog W 0 (fun _ => true) true Try.f4.params.toList args.toList ds p := hA0
  rw [Try.params4] at hA hval
  obtain ⟨v0, vs0, d0, ds0, p0, q0, hargs, rfl, rfl, h0, r0⟩ := trodAll_cons hA
  obtain ⟨v1, vs1, d1, ds1, p1, q1, rfl, rfl, rfl, h1, r1⟩ := trodAll_cons r0
  obtain ⟨v2, vs2, d2, ds2, p2, q2, rfl, rfl, rfl, h2, r2⟩ := trodAll_cons r1
  obtain ⟨v3, vs3, d3, ds3, p3, q3, rfl, rfl, rfl, h3, r3⟩ := trodAll_cons r2
  obtain ⟨v4, vs4, d4, ds4, p4, q4, rfl, rfl, rfl, h4, r4⟩ := trodAll_cons r3
  obtain ⟨rfl, rfl, rfl⟩ := trodAll_nil r4
  obtain rfl : args = #[v0, v1, v2, v3, v4] := by cases args; simp_all
  obtain ⟨rfl, rfl⟩ := trodVars_none hV
  obtain ⟨a0, len0, cap0, rfl⟩ := okWide_slice Try.underlying26 (hval 0 26 v0 rfl rfl)
  have k0 := h0
  have lt0 : ∀ x ∈ p0, x.block < W.heap.size := by obtain ⟨m, hm⟩ := k0; exact DataW.trod_lt m _ _ _ hm
  obtain ⟨z0, w0⟩ : ∃ zs, IsStrs W a0 len0 cap0 zs := by
    obtain ⟨fuel, hf⟩ := h0
    rcases open_strings Try.underlying26 Try.underlying9 (by kernel_rfl) hf with ⟨hcs, _⟩ | ⟨x, l, c, zs, hcs, _, hl, hm, hz, _, hcell, hwz⟩
    · simp [Value.cells] at hcs
      obtain ⟨rfl, rfl, rfl⟩ := hcs
      exact ⟨[], .inl ⟨rfl, rfl, rfl, rfl⟩⟩
    · simp [Value.cells] at hcs
      obtain ⟨rfl, rfl, rfl⟩ := hcs
      exact ⟨zs, .inr ⟨_, rfl, hl, hm, by simpa using hz, hcell, hwz⟩⟩
  obtain ⟨a1, rfl, rfl, rfl, w1⟩ := open_string Try.underlying9 (hval 1 9 v1 rfl rfl) h1
  obtain ⟨a2, rfl, rfl, rfl, w2⟩ := open_int Try.underlying5 (hval 2 5 v2 rfl rfl) h2
  obtain ⟨a3, rfl, rfl, rfl, w3⟩ := open_string Try.underlying9 (hval 3 9 v3 rfl rfl) h3
  obtain ⟨a4, rfl, rfl, rfl, w4⟩ := open_int Try.underlying21 (hval 4 21 v4 rfl rfl) h4
  clear hA0
  simp only [List.append_nil] at hW'
  refine (walk a0 len0 cap0 z0 a1 a2 a3 a4 W w0 w1 w2 w3 w4).mono fun e W' ⟨he, bel⟩ => ?_
  subst he
  exact ⟨_, rfl, _, _, _, [], _, [], hW', trodAll_mk1 (shut_bool Try.underlying4 _), (trodAll_cons_mk (Below.trod laidOut (by kernel_rfl) (of_decide_eq_true (by kernel_rfl)) k0 bel lt0) (trodAll_cons_mk (shut_string Try.underlying9 w1) (trodAll_cons_mk (shut_int Try.underlying5 w2) (trodAll_cons_mk (shut_string Try.underlying9 w3) (trodAll_cons_mk (shut_int Try.underlying21 w4) trodAll_mk0))))), rfl, bel.frame _, fun h => by cases h⟩

set_option maxRecDepth 100000 in
theorem lifted (os : Os) (started : os.Started) (H : Type) (enc : TypeId × Value → H) :
    ReturnsInHanded {} Try.checked os 4 .any (Rows.numsFitsSpec.pre6 enc Try.prog Try.f4 Rows.numsFitsRow.domain false) (Rows.numsFitsSpec.post enc Try.prog Try.f4 false true false false) := by
  refine returnsInHanded_of_change (C := Try.checked) own started (by kernel_rfl) Try.func4
    (ChangeSpec.witness6 (enc := enc) (C := Try.checked) false ⟨#[], #[.slice none 0 0, .string ByteArray.empty, .int .u8 0, .string ByteArray.empty, .int .i32 0], []⟩ 8 (by kernel_rfl) (by kernel_rfl) (by kernel_rfl) (by kernel_rfl)) ?_
  intro W base args ds gs before hval hW hcnd _
  exact contract H enc W base args ds gs before hval hW

theorem over : Rows.numsFitsRow.holds Try.pinned (OpenSpec.ofChange Rows.numsFitsSpec) :=
  OpenClaim.holds_of_wide 4 Try.f4 rfl rfl rfl rfl rfl rfl rfl ⟨rfl, rfl, rfl, rfl, rfl⟩ rfl rfl rfl rfl rfl (by kernel_rfl) Try.func4 (by kernel_rfl)
    (of_decide_eq_true (by kernel_rfl)) (by unfold Func.isWrapper; first | (rw [if_pos (by decide +kernel)]; kernel_rfl) | (rw [if_neg (by decide +kernel)]; exact ⟨rfl, rfl⟩))
    (fun os started H enc _ => lifted os started H enc)

theorem proved : Rows.NumsFitsSaid := over
#print axioms proved
end Go.Proofs.Ytmcolabnbchpaab.numsFits
