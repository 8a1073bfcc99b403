/-
  LexLimits returns true. No condition.
-/
import Derived.Test.YtkamkfakokhocaaDoorCards
import Derived.Test.YtkamkfakokhocaaDoorTie
import Derived.Test.YtkamkfakokhocaaDoorLexE2
import Derived.WalkKit
import Derived.ProofKit
import Derived.OpenShut
import Derived.ShutString
import Derived.ChangeOld
import Derived.Below
import Derived.SliceStrings
import Derived.Lib.SmallJoins
import Derived.Lib.Hide
import Derived.Deep.DeepHandedRow
import Derived.Lib.LaidTab
import Derived.LaidHandle
namespace Go.Proofs.YtkamkfakokhocaaDoor.lexLimits
open Go.ChangeShapes Go.WideShapes Go.ChangeAt Go.RowKit
open Go.ChangeMaps (open_string shut_string)
open Go.Joins
set_option linter.unusedVariables false

theorem own : ownKnob Tryd.prog.godebug = none := by kernel_rfl
theorem laidOut : laidOutB Tryd.prog = true := by kernel_rfl

/-- The name that is tried: i signs long. -/
def qs (g : Bool) : Nat → List UInt8
  | 0 => []
  | i + 1 => qs g i ++ [if g && (i == 0) then 81 else 113]
theorem qs_len (g : Bool) : ∀ i, (qs g i).length = i
  | 0 => rfl
  | i + 1 => by simp [qs, qs_len g i]
def tup (t : Lx.Tok) : Int × List UInt8 × Int × Int × Int := (t.k, t.t, t.n, t.line, t.col)
theorem tup_inj {a b : Lx.Tok} (h : tup a = tup b) : a = b := by
  cases a; cases b; simp [tup] at h; simp [h]
def outEq : Lx.Out → Lx.Out → Bool
  | .inl a, .inl b => decide (a.map tup = b.map tup)
  | .inr a, .inr b => decide (a = b)
  | _, _ => false
theorem map_tup_inj : ∀ {a b : List Lx.Tok}, a.map tup = b.map tup → a = b
  | [], [], _ => rfl
  | [], _ :: _, h => by simp at h
  | _ :: _, [], h => by simp at h
  | x :: a, y :: b, h => by
    simp only [List.map_cons, List.cons.injEq] at h
    rw [tup_inj h.1, map_tup_inj h.2]
theorem outEq_eq {a b : Lx.Out} (h : outEq a b = true) : a = b := by
  rcases a with a | a <;> rcases b with b | b <;> simp only [outEq, decide_eq_true_eq] at h
  · rw [map_tup_inj h]
  · cases h
  · cases h
  · rw [h]
def limOut (g : Bool) (k : Nat) : Lx.Out := if 32 < k then .inr (3, 1, 2) else .inl [⟨if g then 3 else 2, qs g k, 0, 1, 2⟩, ⟨0, [], 0, 1, 2 + k⟩]
theorem lims : ((List.range 40).all fun j => outEq (Lx.lx (32 :: qs true (j + 1)) 1 1) (limOut true (j + 1)) && outEq (Lx.lx (32 :: qs false (j + 1)) 1 1) (limOut false (j + 1))) = true := by decide +kernel
theorem lim_out (g : Bool) (m : Nat) (h : m < 40) : Lx.lx (32 :: qs g (m + 1)) 1 1 = limOut g (m + 1) := by
  have hl := lims
  rw [List.all_eq_true] at hl
  have := hl m (by simpa using h)
  simp only [Bool.and_eq_true] at this
  cases g
  · exact outEq_eq this.2
  · exact outEq_eq this.1
theorem words_is (s : ByteArray) (hs : s.size ≤ 65536) (o : Lx.Out) (h : Lx.lx s.data.toList 1 1 = o) (W : World) : Calls Tryd.prog 5 #[.string s] W (WordsOut o W) := h ▸ words_any s hs W
theorem app_list (a b : ByteArray) : (a ++ b).data.toList = a.data.toList ++ b.data.toList := by simp
theorem app_size (a b : ByteArray) : (a ++ b).size = a.size + b.size := by simp

set_option maxHeartbeats 4000000 in
set_option maxRecDepth 100000 in
theorem walk (a0 : Int) (a1 : Bool) (w : World) (w0 : (Lit.int .u8 a0).wf = true) :
    Calls Tryd.prog 4 #[.int .u8 a0, .bool a1] w fun e w' => e = .returned (.bool true) ∧ Below w.heap.size w w' := by
  obtain ⟨l0, l1⟩ := bounds_u8 w0
  obtain ⟨m, hm⟩ : ∃ m : Nat, a0 % 40 = m := ⟨(a0 % 40).toNat, by omega⟩
  have hm40 : m < 40 := by omega
  cases a1 with
  | false =>
    go_enter Tryd.func4, Tryd.ntmps4
    go_wp2
    go_loop [6, 7] (fun sv iv => ∃ (i : Nat) (ds : ByteArray), i ≤ m + 1 ∧ iv = .int .i64 i ∧ sv = .string ds ∧ ds.data.toList = qs false i) (fun _ iv => m + 1 - (intOf iv).toNat)
    case atStart => exact ⟨0, ⟨#[]⟩, by omega, rfl, rfl, rfl⟩
    case round =>
      obtain ⟨i, ds, hi, rfl, rfl, hds⟩ := hrel
      have hsz : ds.size = i := by rw [size_list, hds, qs_len]
      have HS := Lib.hid hsz
      have HD := Lib.hid hds
      have hsb : ds.size ≤ 41 := by omega
      clear hsz hds
      by_cases hlt : i < m + 1
      · go_wp2
        go_round
        case rel => exact ⟨i + 1, ds ++ ⟨#[113]⟩, by omega, by go_num, rfl, by rw [app_list, HD.out]; simp [qs]⟩
        case measure => first | (simp [intOf]; done) | (simp [intOf]; omega)
      · have him : i = m + 1 := by omega
        have hO := lim_out false m hm40
        have hO2 : Lx.lx ((⟨#[32]⟩ : ByteArray) ++ ds).data.toList 1 1 = limOut false (m + 1) := by
          rw [app_list, HD.out, him]
          exact hO
        have hZ : ((⟨#[32]⟩ : ByteArray) ++ ds).size ≤ 65536 := by rw [app_size]; have : (⟨#[32]⟩ : ByteArray).size = 1 := rfl; omega
        have HZ := Lib.hid hZ
        have hst : ds.toList = qs false (m + 1) := by rw [toList_data, HD.out, him]
        clear hO hZ
        by_cases hk : 32 ≤ m
        · have HO := Lib.hid (show Lx.lx ((⟨#[32]⟩ : ByteArray) ++ ds).data.toList 1 1 = .inr (3, 1, 2) by rw [hO2]; unfold limOut; rw [if_pos (by omega)])
          clear hO2 hst
          have HI := Lib.hid him
          clear him
          go_wp2_with (first
            | (go_at_call 5; refine (words_is _ HZ.out _ HO.out _).mono ?_; rintro e w1 ⟨b, rfl, hE, hge, hb⟩)
            | (go_at_call 6; refine (awake_any _).mono ?_; rintro e w2 ⟨rfl, hb2⟩; have hE2 := hE.below hb2 hE.lt)
            | (go_at_call 7; refine (kind_err hE2 (by decide) (by decide)).mono ?_; rintro e w3 ⟨rfl, hb3⟩; have hE3 := hE2.below hb3 hE2.lt)
            | (go_at_call 8; refine (where_err hE3).mono ?_; rintro e w4 ⟨rfl, hb4⟩))
          go_ret
          exact ⟨rfl, hb.trans ((hb2.mono hb.size).trans ((hb3.mono (Nat.le_trans hb.size hb2.size)).trans (hb4.mono (Nat.le_trans hb.size (Nat.le_trans hb2.size hb3.size)))))⟩
        · have HO := Lib.hid (show Lx.lx ((⟨#[32]⟩ : ByteArray) ++ ds).data.toList 1 1 = .inl [⟨if false then 3 else 2, qs false (m + 1), 0, 1, 2⟩, ⟨0, [], 0, 1, 2 + (m + 1 : Nat)⟩] by rw [hO2]; unfold limOut; rw [if_neg (by omega)])
          clear hO2
          have HI := Lib.hid him
          clear him
          obtain ⟨z, hz⟩ : ∃ z, qs false (m + 1) = z := ⟨_, rfl⟩
          rw [hz] at hst HO
          clear hz
          go_wp2_with (first
            | (go_at_call 5; refine (words_is _ HZ.out _ HO.out _).mono ?_; rintro e w1 ⟨v, rfl, hown, hb⟩; obtain ⟨g, cap, rfl, hg, hc1, hc2, hcell⟩ := row_cells hown; have q1 := hcell 0 _ rfl; have q2 := hcell 1 _ rfl; clear hcell hown hg)
            | (go_at_call 6; refine (awake_any _).mono ?_; rintro e w2 ⟨rfl, hb2⟩; have r1 := (hb2.cell (p := ⟨g, 0, none⟩) (World.block_lt_of_cell? _ _ q1)).trans q1; have r2 := (hb2.cell (p := ⟨g, 1, none⟩) (World.block_lt_of_cell? _ _ q2)).trans q2))
          go_ret
          exact ⟨rfl, hb.trans (hb2.mono hb.size)⟩
  | true =>
    go_enter Tryd.func4, Tryd.ntmps4
    go_wp2
    go_loop [6, 7] (fun sv iv => ∃ (i : Nat) (ds : ByteArray), i ≤ m + 1 ∧ iv = .int .i64 i ∧ sv = .string ds ∧ ds.data.toList = qs true i) (fun _ iv => m + 1 - (intOf iv).toNat)
    case atStart => exact ⟨0, ⟨#[]⟩, by omega, rfl, rfl, rfl⟩
    case round =>
      obtain ⟨i, ds, hi, rfl, rfl, hds⟩ := hrel
      have hsz : ds.size = i := by rw [size_list, hds, qs_len]
      have HS := Lib.hid hsz
      have HD := Lib.hid hds
      have hsb : ds.size ≤ 41 := by omega
      clear hsz hds
      by_cases hlt : i < m + 1
      · by_cases hi0 : i = 0
        · subst hi0
          go_wp2
          go_round
          case rel => exact ⟨1, ds ++ ⟨#[81]⟩, by omega, by go_num, rfl, by rw [app_list, HD.out]; simp [qs]⟩
          case measure => first | (simp [intOf]; done) | (simp [intOf]; omega)
        · have hi1 : ((i : Int) == 0) = false := by simpa using hi0
          have HI0 := Lib.hid hi0
          clear hi0
          go_wp2
          go_round
          case rel => exact ⟨i + 1, ds ++ ⟨#[113]⟩, by omega, by go_num, rfl, by rw [app_list, HD.out]; simp [qs, HI0.out]⟩
          case measure => first | (simp [intOf]; done) | (simp [intOf]; omega)
      · have him : i = m + 1 := by omega
        have hO := lim_out true m hm40
        have hO2 : Lx.lx ((⟨#[32]⟩ : ByteArray) ++ ds).data.toList 1 1 = limOut true (m + 1) := by
          rw [app_list, HD.out, him]
          exact hO
        have hZ : ((⟨#[32]⟩ : ByteArray) ++ ds).size ≤ 65536 := by rw [app_size]; have : (⟨#[32]⟩ : ByteArray).size = 1 := rfl; omega
        have HZ := Lib.hid hZ
        have hst : ds.toList = qs true (m + 1) := by rw [toList_data, HD.out, him]
        clear hO hZ
        by_cases hk : 32 ≤ m
        · have HO := Lib.hid (show Lx.lx ((⟨#[32]⟩ : ByteArray) ++ ds).data.toList 1 1 = .inr (3, 1, 2) by rw [hO2]; unfold limOut; rw [if_pos (by omega)])
          clear hO2 hst
          have HI := Lib.hid him
          clear him
          go_wp2_with (first
            | (go_at_call 5; refine (words_is _ HZ.out _ HO.out _).mono ?_; rintro e w1 ⟨b, rfl, hE, hge, hb⟩)
            | (go_at_call 6; refine (awake_any _).mono ?_; rintro e w2 ⟨rfl, hb2⟩; have hE2 := hE.below hb2 hE.lt)
            | (go_at_call 7; refine (kind_err hE2 (by decide) (by decide)).mono ?_; rintro e w3 ⟨rfl, hb3⟩; have hE3 := hE2.below hb3 hE2.lt)
            | (go_at_call 8; refine (where_err hE3).mono ?_; rintro e w4 ⟨rfl, hb4⟩))
          go_ret
          exact ⟨rfl, hb.trans ((hb2.mono hb.size).trans ((hb3.mono (Nat.le_trans hb.size hb2.size)).trans (hb4.mono (Nat.le_trans hb.size (Nat.le_trans hb2.size hb3.size)))))⟩
        · have HO := Lib.hid (show Lx.lx ((⟨#[32]⟩ : ByteArray) ++ ds).data.toList 1 1 = .inl [⟨if true then 3 else 2, qs true (m + 1), 0, 1, 2⟩, ⟨0, [], 0, 1, 2 + (m + 1 : Nat)⟩] by rw [hO2]; unfold limOut; rw [if_neg (by omega)])
          clear hO2
          have HI := Lib.hid him
          clear him
          obtain ⟨z, hz⟩ : ∃ z, qs true (m + 1) = z := ⟨_, rfl⟩
          rw [hz] at hst HO
          clear hz
          go_wp2_with (first
            | (go_at_call 5; refine (words_is _ HZ.out _ HO.out _).mono ?_; rintro e w1 ⟨v, rfl, hown, hb⟩; obtain ⟨g, cap, rfl, hg, hc1, hc2, hcell⟩ := row_cells hown; have q1 := hcell 0 _ rfl; have q2 := hcell 1 _ rfl; clear hcell hown hg)
            | (go_at_call 6; refine (awake_any _).mono ?_; rintro e w2 ⟨rfl, hb2⟩; have r1 := (hb2.cell (p := ⟨g, 0, none⟩) (World.block_lt_of_cell? _ _ q1)).trans q1; have r2 := (hb2.cell (p := ⟨g, 1, none⟩) (World.block_lt_of_cell? _ _ q2)).trans q2))
          go_ret
          exact ⟨rfl, hb.trans (hb2.mono hb.size)⟩

set_option maxRecDepth 100000 in
theorem contract (H : Type) (enc : TypeId × Value → H) (W : World) (base : Nat) (args : Array Value) (ds gs : List (DataW H)) (before : List MemPlace)
    (hval : ∀ (j : Nat) t v, Tryd.f4.params[j]? = some t → args[j]? = some v → Value.okWide Tryd.prog W .any base t v)
    (hW : DataW.Whole enc Tryd.prog Tryd.f4.params.toList Rows.lexLimitsSpec.vars false W args.toList ds gs before) (hL : laidMetH Tryd.prog Rows.lexLimitsRow.laid W) :
    Calls Tryd.prog 4 args W fun e W' => ∃ v, e = .returned v ∧ Rows.lexLimitsSpec.post enc Tryd.prog Tryd.f4 false true false false W args v W' := by
  have hW' := hW
  obtain ⟨p, q, hA0, hV, rfl, hfz, hnd⟩ := hW
  have hA : DataW.TrodAll enc Tryd.prog W 0 (fun _ => true) true Tryd.f4.params.toList args.toList ds p := hA0
  rw [Tryd.params4] at hA hval
  obtain ⟨v0, vs0, d0, ds0, p0, q0, hargs, rfl, rfl, h0, r0⟩ := trodAll_cons hA
  obtain ⟨v1, vs1, d1, ds1, p1, q1, rfl, rfl, rfl, h1, r1⟩ := trodAll_cons r0
  obtain ⟨rfl, rfl, rfl⟩ := trodAll_nil r1
  obtain rfl : args = #[v0, v1] := by cases args; simp_all
  obtain ⟨rfl, rfl⟩ := trodVars_none hV
  obtain ⟨a0, rfl, rfl, rfl, w0⟩ := open_int Tryd.underlying5 (hval 0 5 v0 rfl rfl) h0
  obtain ⟨a1, rfl, rfl, rfl⟩ := open_bool Tryd.underlying4 (hval 1 4 v1 rfl rfl) h1
  clear hA0
  simp only [List.append_nil] at hW'
  refine (walk a0 a1 W w0).mono fun e W' ⟨he, bel⟩ => ?_
  subst he
  exact ⟨_, rfl, _, _, _, [], _, [], hW', trodAll_mk1 (shut_bool Tryd.underlying4 _), (trodAll_cons_mk (shut_int Tryd.underlying5 w0) (trodAll_cons_mk (shut_bool Tryd.underlying4 _) trodAll_mk0)), rfl, bel.frame _, fun h => by cases h⟩

noncomputable def laidWorld (os : Os) : World :=
  { World.holding Tryd.prog os ⟨#[], #[], []⟩ with heap := (World.holding Tryd.prog os ⟨#[], #[], []⟩).heap.modify 0 fun
      | .cells _ t frozen => .cells #[.iface 105 (.agg #[.pointer (some ⟨2, 27, none⟩)])] t frozen
      | o => o }
theorem laid_met (os : Os) : laidMetH Tryd.prog Rows.lexLimitsRow.laid ((laidWorld os).forCall (fun _ _ => 0) ⟨#[], #[.int .u8 0, .bool false], []⟩).memory :=
  laidMetH_of_parts (laidMet_nil _ _) (by kernel_rfl)
theorem reads (os : Os) {H : Type} (enc : TypeId × Value → H) : ∃ places, DataW.whole enc Tryd.prog ((laidWorld os).forCall (fun _ _ => 0) ⟨#[], #[.int .u8 0, .bool false], []⟩).memory Tryd.f4.params.toList Rows.lexLimitsSpec.vars false (#[.int .u8 0, .bool false] : Array Value).toList 8 = some ([.lit (.int .u8 0), .lit (.bool false)], [], places) :=
  ⟨[], by kernel_rfl⟩

set_option maxRecDepth 100000 in
theorem lifted (os : Os) (started : os.Started) (H : Type) (enc : TypeId × Value → H) (F : Stop.Interp) :
    ReturnsInHanded {} Tryd.checked os 4 .any ((OpenSpec.ofChange Rows.lexLimitsSpec).preRow enc Tryd.prog Tryd.f4 Rows.lexLimitsRow.domain false Rows.lexLimitsRow.laid) (((OpenSpec.ofChange Rows.lexLimitsSpec).at F).post enc Tryd.prog Tryd.f4 false true false false) := by
  obtain ⟨places, hx⟩ := reads os enc
  refine returnsInHanded_of_row (C := Tryd.checked) (s := OpenSpec.ofChange Rows.lexLimitsSpec) own started (by kernel_rfl) Tryd.func4
    (witness_row_at (enc := enc) (C := Tryd.checked) false (laidWorld os) #[.int .u8 0, .bool false] rfl (by kernel_rfl) (by kernel_rfl) (by kernel_rfl)
      (OpenSpec.preRow_of_cond 8 hx (by kernel_rfl) (fun k hk => by cases hk) (by kernel_rfl) (laid_met os))) ?_
  intro W base args ds gs before hval hW _ _ _ hL _ _
  exact contract H enc W base args ds gs before hval hW hL

theorem said : Rows.LexLimitsSaid :=
  OpenClaim.holds_of_cond 4 Tryd.f4 rfl rfl rfl rfl rfl rfl rfl ⟨rfl, rfl, rfl, rfl, rfl⟩ rfl rfl rfl rfl rfl (by kernel_rfl) Tryd.func4 (by kernel_rfl)
    (of_decide_eq_true (by kernel_rfl)) (by unfold Func.isWrapper; first | (rw [if_pos (by decide +kernel)]; kernel_rfl) | (rw [if_neg (by decide +kernel)]; exact ⟨rfl, rfl⟩))
    (fun os started H enc _ F => by rw [OpenClaim.pre_eq_preRow]; exact lifted os started H enc F)

theorem plain (f : FuncId) (fn : Func) (hf : Tryd.pinned.checked.prog.funcNamed "metronome/metronomelaw03.LexLimits" = some f) (hfn : Tryd.pinned.checked.prog.funcs[f]? = some fn) :
    true = Tryd.pinned.checked.prog.looks [] ∧ ∀ (j : Nat) t, fn.params[j]? = some t → Tryd.pinned.checked.prog.wantsStandIn t = false := by
  obtain rfl : f = 4 := Option.some.inj ((show Tryd.prog.funcNamed "metronome/metronomelaw03.LexLimits" = some 4 by kernel_rfl).symm.trans hf) |>.symm
  obtain rfl : fn = Tryd.f4 := (Option.some.inj (Tryd.func4.symm.trans hfn)).symm
  refine ⟨by kernel_rfl, fun j t ht => ?_⟩
  rw [Tryd.params4] at ht
  have hmem : t = 5 ∨ t = 4 := by simpa using Array.mem_of_getElem? ht
  rcases hmem with rfl | rfl
  · exact (show Tryd.prog.wantsStandIn 5 = false by kernel_rfl)
  · exact (show Tryd.prog.wantsStandIn 4 = false by kernel_rfl)

theorem card : Rows.LexLimitsCardSaid :=
  Claim7.holds_tied_plain_at .later [] _ _ _ _ said (fun _ h => by cases h) (by kernel_rfl) (fun _ h => by cases h) lexLimits_row_tie rfl ⟨rfl, rfl⟩ (by kernel_rfl) rfl plain (by kernel_rfl)
#print axioms card
end Go.Proofs.YtkamkfakokhocaaDoor.lexLimits
