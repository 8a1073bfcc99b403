/- The lexer's gaps and places. -/
import Derived.Test.YtlmfjaaooklhnaaLexD
import Derived.IntWalk
import Derived.BigQuiet
import Derived.Deep.QuietTactic
namespace Go.Proofs.Ytlmfjaaooklhnaa
open Go.ChangeShapes Go.WideShapes Go.ChangeAt Go.RowKit

set_option maxHeartbeats 1000000 in
theorem behind_any (line col : Int) (s : ByteArray) (hs : s.size ≤ 65536) (h0 : 0 ≤ line) (h1 : line ≤ 100000) (h2 : 0 ≤ col) (h3 : col ≤ 100000) (w : World) :
    Calls Try.prog 13 #[.agg #[.int .i64 line, .int .i64 col], .string s] w fun e w' => e = .returned (.agg #[.int .i64 (Lx.lineB s.data.toList line), .int .i64 (Lx.colB s.data.toList col)]) ∧ Below w.heap.size w w' := by
  by_cases he : (s.data.toList == [10]) = true
  · have e1 : Lx.lineB s.data.toList line = line + 1 := by unfold Lx.lineB; rw [if_pos he]
    have e2 : Lx.colB s.data.toList col = 1 := by unfold Lx.colB; rw [if_pos he]
    rw [e1, e2]
    have ht : s.toList = [10] := by rw [toList_data]; simpa using he
    clear e1 e2 he
    go_enter Try.func13, Try.ntmps13
    go_wp2
    exact bodyPost_ret (v := .agg #[.int .i64 (line + 1), .int .i64 1]) (by simp [results, Try.results13, go_sem]) rfl ⟨rfl, ((Below.refl _ _).alloc (Nat.le_refl _) _).alloc (by simp) _⟩
  · have e1 : Lx.lineB s.data.toList line = line := by unfold Lx.lineB; rw [if_neg he]
    have e2 : Lx.colB s.data.toList col = col + s.size := by unfold Lx.colB; rw [if_neg he]; rfl
    rw [e1, e2]
    have ht : (s.toList == [10]) = false := by rw [toList_data]; simpa using he
    clear e1 e2 he
    go_enter Try.func13, Try.ntmps13
    go_wp2
    exact bodyPost_ret (v := .agg #[.int .i64 line, .int .i64 (col + s.size)]) (by simp [results, Try.results13, go_sem]) rfl ⟨rfl, ((Below.refl _ _).alloc (Nat.le_refl _) _).alloc (by simp) _⟩

theorem isNl_iff (c : UInt8) : Lx.isNl c = true ↔ c = 10 := by
  unfold Lx.isNl
  constructor
  · intro h
    have h2 : c.toNat = 10 := by have := beq_iff_eq.1 h; omega
    exact UInt8.toNat_inj.1 h2
  · rintro rfl; rfl
theorem cut_at (l : List UInt8) (o : Nat) (h : Lib.indexByte l 10 = o) : l.takeWhile (fun c => !(Lx.isNl c)) = l.take o ∧ o < l.length := by
  obtain ⟨h1, h2⟩ := Lib.indexByte_some h
  have hlt : o < l.length := (List.getElem?_eq_some_iff.1 h1).1
  refine ⟨takeWhile_pre l o (by omega) ?_ (fun c hc => ?_), hlt⟩
  · rw [List.all_eq_true]
    intro x hx
    obtain ⟨k, hk, e⟩ := List.getElem_of_mem hx
    have hk' : k < o := by simp at hk; omega
    have e2 : l[k]? = some x := by rw [List.getElem_take] at e; rw [List.getElem?_eq_getElem (by omega), e]
    have := h2 k hk'
    rw [e2] at this
    cases hn : Lx.isNl x with
    | false => rfl
    | true => exact absurd (congrArg some ((isNl_iff x).1 hn)) this
  · rw [h1] at hc
    obtain rfl := Option.some.inj hc
    rfl
theorem cut_none (l : List UInt8) (h : Lib.indexByte l 10 = -1) : l.takeWhile (fun c => !(Lx.isNl c)) = l := by
  have h2 := Lib.indexByte_none h
  have e := takeWhile_pre (p := fun c => !(Lx.isNl c)) l l.length (Nat.le_refl _) ?_ (fun c hc => by rw [List.getElem?_eq_none (Nat.le_refl _)] at hc; cases hc)
  · rw [e, List.take_length]
  · rw [List.take_length, List.all_eq_true]
    intro x hx
    obtain ⟨k, hk, e⟩ := List.getElem_of_mem hx
    have e2 : l[k]? = some x := by rw [List.getElem?_eq_getElem hk, e]
    have := h2 k
    rw [e2] at this
    cases hn : Lx.isNl x with
    | false => rfl
    | true => exact absurd (congrArg some ((isNl_iff x).1 hn)) this
def CutOut (l : List UInt8) (w : World) (e : Ending) (w' : World) : Prop :=
  ∃ (d1 d2 : ByteArray) (b : Bool) (n : Nat), e = .returned (.tuple #[.string d1, .string d2, .bool b]) ∧ d1.data.toList = l.takeWhile (fun c => !(Lx.isNl c)) ∧ w' = w.drewN n

set_option maxHeartbeats 1000000 in
theorem liteCut_nl (s : ByteArray) (hs : s.size ≤ 65536) (w : World) :
    Calls Try.prog 27 #[.string s, .string ⟨#[10]⟩] w (CutOut s.data.toList w) := by
  have hge := Lib.indexByte_ge s.data.toList 10
  obtain ⟨i, hi⟩ : ∃ i, Lib.indexByte s.data.toList 10 = i := ⟨_, rfl⟩
  rw [hi] at hge
  have HI := Lib.hid hi
  clear hi
  by_cases h0 : 0 ≤ i
  · obtain ⟨o, rfl⟩ := Int.eq_ofNat_of_zero_le h0
    obtain ⟨c1, c2⟩ := cut_at _ _ HI.out
    rw [← size_list] at c2
    have HC := Lib.hid c1
    clear c1 h0 hge
    go_enter Try.func27, Try.ntmps27
    go_wp2_with (go_at_call 34; refine (Try.stringslite_Index_one _ 10 _).mono ?_; rintro e w' ⟨rfl, rfl⟩; rw [HI.out])
    have k1 : IntKind.i64.wrap ((o : Int) + 1) = (o : Int) + 1 := IntWalk.i64_in _ (by omega)
    have k2 : 0 ≤ (o : Int) + 1 := by omega
    have k3 : ((o : Int) + 1).toNat = o + 1 := by omega
    go_quiet (fail)
    clear k1 k2 k3
    go_wp2
    refine bodyPost_ret (v := .tuple #[.string (s.extract 0 o), .string (s.extract (o + 1) s.size), .bool true]) (by simp [results, Try.results27, go_sem]) rfl ?_
    exact ⟨_, _, _, _, rfl, by rw [extract_take, HC.out], rfl⟩
  · obtain rfl : i = -1 := by omega
    have HC := Lib.hid (cut_none _ HI.out)
    clear h0 hge
    go_enter Try.func27, Try.ntmps27
    go_wp2_with (go_at_call 34; refine (Try.stringslite_Index_one _ 10 _).mono ?_; rintro e w' ⟨rfl, rfl⟩; rw [HI.out])
    refine bodyPost_ret (v := .tuple #[.string s, .string ⟨#[]⟩, .bool false]) (by simp [results, Try.results27, go_sem]) rfl ?_
    exact ⟨_, _, _, 0, rfl, HC.out.symm, rfl⟩

set_option maxHeartbeats 1000000 in
theorem cut_nl (s : ByteArray) (hs : s.size ≤ 65536) (w : World) :
    Calls Try.prog 19 #[.string s, .string ⟨#[10]⟩] w (CutOut s.data.toList w) := by
  go_enter Try.func19, Try.ntmps19
  go_wp2_with (go_at_call 27; refine (liteCut_nl s hs _).mono ?_; rintro e w1 ⟨d1, d2, b, n, rfl, hd, rfl⟩; have HD := Lib.hid hd; clear hd)
  refine bodyPost_ret (v := .tuple #[.string d1, .string d2, .bool b]) (by simp [results, Try.results19, go_sem]) rfl ?_
  exact ⟨_, _, _, _, rfl, HD.out, rfl⟩

theorem gap_pre (s : ByteArray) (h : Lib.hasPrefix s.data.toList [45, 45] = true) : Lx.gap s.data.toList = (s.data.toList.takeWhile (fun c => !(Lx.isNl c))).length := by
  unfold Lx.gap
  rw [if_pos (List.isPrefixOf_iff_prefix.1 h)]
theorem gap_nopre (s : ByteArray) (h : Lib.hasPrefix s.data.toList [45, 45] = false) (h0 : 0 < s.size) :
    Lx.gap s.data.toList = if (s[0].toNat : Int) == 32 || ((s[0].toNat : Int) == 9 || (s[0].toNat : Int) == 10) then 1 else 0 := by
  have e : s.data.toList[0]? = some s[0] := List.getElem?_eq_getElem (by simpa using h0)
  unfold Lx.gap
  rw [if_neg (fun g => by rw [Lib.hasPrefix, List.isPrefixOf_iff_prefix.2 g] at h; cases h)]
  cases hl : s.data.toList with
  | nil => rw [hl] at e; cases e
  | cons c r =>
    rw [hl] at e
    simp at e
    subst e
    rfl
def DrewOut (v : Value) (w : World) (e : Ending) (w' : World) : Prop := e = .returned v ∧ ∃ n, w' = w.drewN n

set_option maxHeartbeats 1000000 in
theorem gap_any (s : ByteArray) (hs : s.size ≤ 65536) (w : World) :
    Calls Try.prog 12 #[.string s] w (DrewOut (.int .i64 (Lx.gap s.data.toList)) w) := by
  obtain ⟨b, hb⟩ : ∃ b, Lib.hasPrefix s.data.toList [45, 45] = b := ⟨_, rfl⟩
  have HB := Lib.hid hb
  clear hb
  cases b with
  | true =>
    have HG := Lib.hid (gap_pre s HB.out)
    go_enter Try.func12, Try.ntmps12
    go_wp2_with (first
      | (go_at_call 18; refine (Try.strings_HasPrefix _ _ _).mono ?_; rintro e w' ⟨rfl, rfl⟩; rw [HB.out])
      | (go_at_call 19; refine (cut_nl s hs _).mono ?_; rintro e w1 ⟨d1, d2, b, n, rfl, hd, rfl⟩; have HD := Lib.hid hd; clear hd))
    go_ret
    exact ⟨ret_int (by rw [HG.out, ← HD.out]; rfl), n, rfl⟩
  | false =>
    by_cases h0 : 0 < s.size
    · have h0' : 0 < s.data.size := h0
      have HG := Lib.hid (gap_nopre s HB.out h0)
      have hne : (s.toList == []) = false := by
        rw [toList_data]
        cases hl : s.data.toList with
        | nil => have : s.size = 0 := by rw [size_list, hl]; rfl
                 omega
        | cons c r => rfl
      have hne2 : s.toList.isEmpty = false := by
        rw [toList_data]
        cases hl : s.data.toList with
        | nil => have : s.size = 0 := by rw [size_list, hl]; rfl
                 omega
        | cons c r => rfl
      go_enter Try.func12, Try.ntmps12
      go_wp2_with (first
        | (go_at_call 18; refine (Try.strings_HasPrefix _ _ _).mono ?_; rintro e w' ⟨rfl, rfl⟩; rw [HB.out]))
      all_goals go_ret
      · exact ⟨ret_int (by rw [HG.out, if_pos (by simp_all)]; rfl), 0, rfl⟩
      · exact ⟨ret_int (by rw [HG.out, if_pos (by simp_all)]; rfl), 0, rfl⟩
      · exact ⟨ret_int (by rw [HG.out, if_pos (by simp_all)]; rfl), 0, rfl⟩
      · exact ⟨ret_int (by rw [HG.out, if_neg (by simp_all)]; rfl), 0, rfl⟩
    · have hl : s.data.toList = [] := List.eq_nil_of_length_eq_zero (by rw [← size_list]; omega)
      have hT : s.toList = [] := by rw [toList_data, hl]
      have HG := Lib.hid (show Lx.gap s.data.toList = 0 by rw [hl]; exact Lx.gap_nil)
      clear hl
      go_enter Try.func12, Try.ntmps12
      go_wp2_with (first
        | (go_at_call 18; refine (Try.strings_HasPrefix _ _ _).mono ?_; rintro e w' ⟨rfl, rfl⟩; rw [HB.out]))
      go_ret
      exact ⟨ret_int (by rw [HG.out]; rfl), 0, rfl⟩
end Go.Proofs.Ytlmfjaaooklhnaa
