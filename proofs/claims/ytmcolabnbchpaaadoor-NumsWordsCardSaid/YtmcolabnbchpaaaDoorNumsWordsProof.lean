/-
  How any operator is written, how strongly it binds and of what it is, is told right: NumsWords returns true. No condition.
-/
import Derived.Test.YtmcolabnbchpaaaDoorCards
import Derived.Test.YtmcolabnbchpaaaDoorTie
import Derived.Test.YtmcolabnbchpaaaDoorNumsBin
import Derived.WalkKit
import Derived.ProofKit
import Derived.OpenShut
import Derived.ShutString
import Derived.ChangeOld
import Derived.Below
import Derived.SliceStrings
import Derived.Lib.SmallJoins
import Derived.Lib.Hide
import Derived.Deep.DeepHandedRow
import Derived.Lib.LaidTab
import Derived.Test.YtmcolabnbchpaaaDoorStrTabs
namespace Go.Proofs.YtmcolabnbchpaaaDoor.numsWords
open Go.ChangeShapes Go.WideShapes Go.ChangeAt Go.RowKit
open Go.ChangeMaps (open_string shut_string)
open Go.Joins
set_option linter.unusedVariables false

theorem own : ownKnob Tryd.prog.godebug = none := by kernel_rfl
theorem laidOut : laidOutB Tryd.prog = true := by kernel_rfl

def wordsL : List (List UInt8) := [[], [110, 111, 116], [45], [43], [45], [42], [47], [109, 111, 100], [97, 110, 100], [111, 114], [120, 111, 114], [61], [60, 62], [60], [60, 61], [62], [62, 61]]
def wordI (op : Int) : ByteArray := ⟨(wordsL.getD op.toNat []).toArray⟩
theorem word_none (op : Int) (h : op = 0 ∨ 17 ≤ op) : wordI op = ⟨#[]⟩ := by
  rcases h with rfl | h
  · rfl
  · unfold wordI
    rw [List.getD_eq_getElem?_getD, List.getElem?_eq_none (by simp [wordsL]; omega)]
    rfl
theorem ret_str {a b : ByteArray} (h : a = b) : Ending.returned (.string a) = .returned (.string b) := by rw [h]

set_option maxHeartbeats 1000000 in
theorem word_any (op : Int) (h0 : 0 ≤ op) (h1 : op ≤ 255) (w : World) (ht : ∀ i z, wordsL[i]? = some z → w.cell? ⟨0, i, none⟩ = some (.string ⟨z.toArray⟩)) :
    Calls Tryd.prog 7 #[.int .u8 op] w fun e w' => e = .returned (.string (wordI op)) ∧ w = w' := by
  by_cases h : 17 ≤ op
  · clear ht
    go_enter Tryd.func7, Tryd.ntmps7
    go_wp2
    go_ret
    exact ⟨ret_str ((word_none op (.inr h)).symm), rfl⟩
  · obtain ⟨k, rfl⟩ := Int.eq_ofNat_of_zero_le h0
    have hk : k < 17 := by omega
    have hc : w.cell? ⟨0, k, none⟩ = some (.string (wordI k)) := by
      have e : wordsL[k]? = some (wordsL.getD k []) := by rw [List.getD_eq_getElem?_getD]; rw [List.getElem?_eq_getElem (by simp [wordsL]; omega)]; rfl
      exact ht k _ e
    clear ht
    go_enter Tryd.func7, Tryd.ntmps7
    go_wp2
    go_ret
    exact ⟨rfl, rfl⟩

set_option maxHeartbeats 1000000 in
theorem rword_any (op : Int) (h0 : 0 ≤ op) (h1 : op ≤ 255) (w : World) :
    Calls Tryd.prog 8 #[.int .u8 op] w fun e w' => e = .returned (.string (wordI op)) ∧ w = w' := by
  go_enter Tryd.func8, Tryd.ntmps8
  go_wp2
  all_goals go_ret
  all_goals first
    | (refine ⟨ret_str (word_none op ?_).symm, rfl⟩; simp only [beq_eq_false_iff_ne, ne_eq] at *; omega)
    | (refine ⟨ret_str ?_, rfl⟩; simp_all [wordI, wordsL]; done)
    | trace_state

def strI (op : Int) : Int := if op == 9 || op == 10 then 1 else if op == 8 then 2 else if decide (11 ≤ op) && decide (op ≤ 16) then 3 else if op == 3 || op == 4 then 4 else if decide (5 ≤ op) && decide (op ≤ 7) then 5 else 0
theorem ret_tup {a b c d : Int} (h : a = c) (g : b = d) : Ending.returned (.tuple #[.int .u8 a, .int .u8 b]) = .returned (.tuple #[.int .u8 c, .int .u8 d]) := by rw [h, g]

set_option maxHeartbeats 2000000 in
theorem str_any (op : Int) (h0 : 0 ≤ op) (h1 : op ≤ 255) (w : World) :
    Calls Tryd.prog 9 #[.int .u8 op] w fun e w' => e = .returned (.int .i64 (strI op)) ∧ w = w' := by
  go_enter Tryd.func9, Tryd.ntmps9
  go_wp2
  all_goals go_ret
  all_goals refine ⟨ret_int ?_, rfl⟩
  all_goals first | (unfold strI; simp_all; done) | (unfold strI; simp_all; omega) | (unfold strI; simp only [beq_eq_false_iff_ne, ne_eq, beq_iff_eq] at *; simp; repeat' split; all_goals omega) | trace_state

set_option maxHeartbeats 2000000 in
theorem rstr_any (op : Int) (h0 : 0 ≤ op) (h1 : op ≤ 255) (w : World) :
    Calls Tryd.prog 10 #[.int .u8 op] w fun e w' => e = .returned (.int .i64 (strI op)) ∧ w = w' := by
  go_enter Tryd.func10, Tryd.ntmps10
  go_wp2
  all_goals go_ret
  all_goals refine ⟨ret_int ?_, rfl⟩
  all_goals first | (unfold strI; simp_all; done) | (unfold strI; simp_all; omega) | (unfold strI; simp only [beq_eq_false_iff_ne, ne_eq, beq_iff_eq] at *; simp; repeat' split; all_goals omega) | trace_state

def tyA (op : Int) : Int := if op == 1 || decide (8 ≤ op) && decide (op ≤ 10) then 1 else if decide (2 ≤ op) && decide (op ≤ 7) || decide (13 ≤ op) && decide (op ≤ 16) then 2 else 0
def tyB (op : Int) : Int := if op == 1 || decide (8 ≤ op) && decide (op ≤ 16) then 1 else if decide (2 ≤ op) && decide (op ≤ 7) then 2 else 0

set_option maxHeartbeats 2000000 in
theorem ty_any (op : Int) (h0 : 0 ≤ op) (h1 : op ≤ 255) (w : World) :
    Calls Tryd.prog 4 #[.int .u8 op] w fun e w' => e = .returned (.tuple #[.int .u8 (tyA op), .int .u8 (tyB op)]) ∧ w = w' := by
  go_enter Tryd.func4, Tryd.ntmps4
  go_wp2
  all_goals go_ret2
  all_goals refine ⟨ret_tup ?_ ?_, rfl⟩
  all_goals first | (unfold tyA; simp_all; done) | (unfold tyB; simp_all; done) | (unfold tyA; simp_all; omega) | (unfold tyB; simp_all; omega) | trace_state

set_option maxHeartbeats 2000000 in
theorem rty_any (op : Int) (h0 : 0 ≤ op) (h1 : op ≤ 255) (w : World) :
    Calls Tryd.prog 5 #[.int .u8 op] w fun e w' => e = .returned (.tuple #[.int .u8 (tyA op), .int .u8 (tyB op)]) ∧ w = w' := by
  go_enter Tryd.func5, Tryd.ntmps5
  go_wp2
  all_goals go_ret2
  all_goals refine ⟨ret_tup ?_ ?_, rfl⟩
  all_goals first | (unfold tyA; simp_all; done) | (unfold tyB; simp_all; done) | (unfold tyA; simp_all; omega) | (unfold tyB; simp_all; omega) | trace_state

set_option maxHeartbeats 2000000 in
theorem walk (a0 : Int) (w : World) (w0 : (Lit.int .u8 a0).wf = true) (ht : ∀ i z, wordsL[i]? = some z → w.cell? ⟨0, i, none⟩ = some (.string ⟨z.toArray⟩)) :
    Calls Tryd.prog 3 #[.int .u8 a0] w fun e w' => e = .returned (.bool true) ∧ Below w.heap.size w w' := by
  obtain ⟨l0, l1⟩ := bounds_u8 w0
  have HT := Lib.hid ht
  clear ht
  obtain ⟨o, ho⟩ : ∃ o : Int, a0 % 20 = o := ⟨_, rfl⟩
  have o0 : 0 ≤ o := by omega
  have o1 : o ≤ 255 := by omega
  go_enter Tryd.func3, Tryd.ntmps3
  go_wp2_with (first
    | (go_at_call 6; refine (awake_any _).mono ?_; rintro e w' ⟨rfl, rfl⟩)
    | (go_at_call 4; refine (ty_any _ (by omega) (by omega) _).mono ?_; rintro e w' ⟨rfl, rfl⟩)
    | (go_at_call 5; refine (rty_any _ (by omega) (by omega) _).mono ?_; rintro e w' ⟨rfl, rfl⟩)
    | (go_at_call 9; refine (str_any _ (by omega) (by omega) _).mono ?_; rintro e w' ⟨rfl, rfl⟩)
    | (go_at_call 10; refine (rstr_any _ (by omega) (by omega) _).mono ?_; rintro e w' ⟨rfl, rfl⟩)
    | (go_at_call 7; refine (word_any _ (by omega) (by omega) _ HT.out).mono ?_; rintro e w' ⟨rfl, rfl⟩)
    | (go_at_call 8; refine (rword_any _ (by omega) (by omega) _).mono ?_; rintro e w' ⟨rfl, rfl⟩))
  go_ret
  exact ⟨rfl, Below.refl _ _⟩

theorem contract (H : Type) (enc : TypeId × Value → H) (W : World) (base : Nat) (args : Array Value) (ds gs : List (DataW H)) (before : List MemPlace)
    (hval : ∀ (j : Nat) t v, Tryd.f3.params[j]? = some t → args[j]? = some v → Value.okWide Tryd.prog W .any base t v)
    (hW : DataW.Whole enc Tryd.prog Tryd.f3.params.toList Rows.numsWordsSpec.vars false W args.toList ds gs before) (hL : laidMetH Tryd.prog Rows.numsWordsRow.laid W) :
    Calls Tryd.prog 3 args W fun e W' => ∃ v, e = .returned v ∧ Rows.numsWordsSpec.post enc Tryd.prog Tryd.f3 false true false false W args v W' := by
  have hW' := hW
  obtain ⟨p, q, hA0, hV, rfl, hfz, hnd⟩ := hW
  have hA : DataW.TrodAll enc Tryd.prog W 0 (fun _ => true) true Tryd.f3.params.toList args.toList ds p := hA0
  rw [Tryd.params3] at hA hval
  obtain ⟨v0, vs0, d0, ds0, p0, q0, hargs, rfl, rfl, h0, r0⟩ := trodAll_cons hA
  obtain ⟨rfl, rfl, rfl⟩ := trodAll_nil r0
  obtain rfl : args = #[v0] := by cases args; simp_all
  obtain ⟨rfl, rfl⟩ := trodVars_none hV
  obtain ⟨a0, rfl, rfl, rfl, w0⟩ := open_int Tryd.underlying5 (hval 0 5 v0 rfl rfl) h0
  clear hA0
  simp only [List.append_nil] at hW'
  have ht : ∀ i z, wordsL[i]? = some z → W.cell? ⟨0, i, none⟩ = some (.string ⟨z.toArray⟩) := fun i z hz =>
    StrTabIs.cell (name := "metronome/nums.words") (strTabIs_of_head (zs := wordsL) (rest := []) (by kernel_rfl) (show (Tryd.prog.globals[0]?).map (·.type) = some 29 by kernel_rfl) Tryd.underlying29 Tryd.underlying9 (by kernel_rfl) (by kernel_rfl) hL) (by kernel_rfl) i z hz
  refine (walk a0 W w0 ht).mono fun e W' ⟨he, bel⟩ => ?_
  subst he
  exact ⟨_, rfl, _, _, _, [], _, [], hW', trodAll_mk1 (shut_bool Tryd.underlying4 _), (trodAll_cons_mk (shut_int Tryd.underlying5 w0) trodAll_mk0), rfl, bel.frame _, fun h => by cases h⟩

noncomputable def laidWorld (os : Os) : World :=
  { World.holding Tryd.prog os ⟨#[], #[], []⟩ with heap := (World.holding Tryd.prog os ⟨#[], #[], []⟩).heap.modify 0 fun
      | .cells _ t frozen => .cells ((wordsL.map fun z => Value.string ⟨z.toArray⟩).toArray) t frozen
      | o => o }
theorem laid_met (os : Os) : laidMet Tryd.prog Rows.numsWordsRow.laid ((laidWorld os).forCall (fun _ _ => 0) ⟨#[], #[.int .u8 0], []⟩).memory :=
  laidMet_of_run' 8 (by kernel_rfl) (by kernel_rfl)
theorem reads (os : Os) {H : Type} (enc : TypeId × Value → H) : ∃ places, DataW.whole enc Tryd.prog ((laidWorld os).forCall (fun _ _ => 0) ⟨#[], #[.int .u8 0], []⟩).memory Tryd.f3.params.toList Rows.numsWordsSpec.vars false (#[.int .u8 0] : Array Value).toList 8 = some ([.lit (.int .u8 0)], [], places) :=
  ⟨[], by kernel_rfl⟩

set_option maxRecDepth 100000 in
theorem lifted (os : Os) (started : os.Started) (H : Type) (enc : TypeId × Value → H) (F : Stop.Interp) :
    ReturnsInHanded {} Tryd.checked os 3 .any ((OpenSpec.ofChange Rows.numsWordsSpec).preRow enc Tryd.prog Tryd.f3 Rows.numsWordsRow.domain false Rows.numsWordsRow.laid) (((OpenSpec.ofChange Rows.numsWordsSpec).at F).post enc Tryd.prog Tryd.f3 false true false false) := by
  obtain ⟨places, hx⟩ := reads os enc
  refine returnsInHanded_of_row (C := Tryd.checked) (s := OpenSpec.ofChange Rows.numsWordsSpec) own started (by kernel_rfl) Tryd.func3
    (witness_row_at (enc := enc) (C := Tryd.checked) false (laidWorld os) #[.int .u8 0] rfl (by kernel_rfl) (by kernel_rfl) (by kernel_rfl)
      (OpenSpec.preRow_of_cond 8 hx (by kernel_rfl) (fun k hk => by cases hk) (by kernel_rfl) (laid_met os))) ?_
  intro W base args ds gs before hval hW _ _ _ hL _ _
  exact contract H enc W base args ds gs before hval hW hL

theorem said : Rows.NumsWordsSaid :=
  OpenClaim.holds_of_cond 3 Tryd.f3 rfl rfl rfl rfl rfl rfl rfl ⟨rfl, rfl, rfl, rfl, rfl⟩ rfl rfl rfl rfl rfl (by kernel_rfl) Tryd.func3 (by kernel_rfl)
    (of_decide_eq_true (by kernel_rfl)) (by unfold Func.isWrapper; first | (rw [if_pos (by decide +kernel)]; kernel_rfl) | (rw [if_neg (by decide +kernel)]; exact ⟨rfl, rfl⟩))
    (fun os started H enc _ F => by rw [OpenClaim.pre_eq_preRow]; exact lifted os started H enc F)

theorem plain (f : FuncId) (fn : Func) (hf : Tryd.pinned.checked.prog.funcNamed "metronome/metronomelaw02.NumsWords" = some f) (hfn : Tryd.pinned.checked.prog.funcs[f]? = some fn) :
    false = Tryd.pinned.checked.prog.looks [] ∧ ∀ (j : Nat) t, fn.params[j]? = some t → Tryd.pinned.checked.prog.wantsStandIn t = false := by
  obtain rfl : f = 3 := Option.some.inj ((show Tryd.prog.funcNamed "metronome/metronomelaw02.NumsWords" = some 3 by kernel_rfl).symm.trans hf) |>.symm
  obtain rfl : fn = Tryd.f3 := (Option.some.inj (Tryd.func3.symm.trans hfn)).symm
  refine ⟨by kernel_rfl, fun j t ht => ?_⟩
  rw [Tryd.params3] at ht
  have hmem : t = 5 := by simpa using Array.mem_of_getElem? ht
  rcases hmem with rfl
  · exact (show Tryd.prog.wantsStandIn 5 = false by kernel_rfl)

theorem card : Rows.NumsWordsCardSaid :=
  Claim7.holds_tied_plain_at .later [] _ _ _ _ said (fun _ h => by cases h) (by kernel_rfl) (fun _ h => by cases h) numsWords_row_tie rfl ⟨rfl, rfl⟩ (by kernel_rfl) rfl plain (by kernel_rfl)
#print axioms card
end Go.Proofs.YtmcolabnbchpaaaDoor.numsWords
