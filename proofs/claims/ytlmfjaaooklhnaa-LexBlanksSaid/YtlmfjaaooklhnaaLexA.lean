/- The lexer's small functions. -/
import Derived.Test.YtlmfjaaooklhnaaRows
import Derived.Test.YtlmfjaaooklhnaaLx
import Derived.WalkKit
import Derived.ProofKit
import Derived.OpenShut
import Derived.Lib.Hide
import Derived.WalkSpells
import Derived.WalkLawsBesides
namespace Go.Proofs.Ytlmfjaaooklhnaa
open Go.ChangeShapes Go.WideShapes Go.ChangeAt Go.RowKit

theorem ret_bool {a b : Bool} (h : a = b) : Ending.returned (.bool a) = .returned (.bool b) := by rw [h]
theorem ret_int {k : IntKind} {a b : Int} (h : a = b) : Ending.returned (.int k a) = .returned (.int k b) := by rw [h]
theorem ret_str {a b : ByteArray} (h : a = b) : Ending.returned (.string a) = .returned (.string b) := by rw [h]

set_option maxHeartbeats 400000 in
theorem isDigit_any (c : UInt8) (w : World) : Calls Try.prog 20 #[.int .u8 c.toNat] w fun e w' => e = .returned (.bool (Lx.isDigit c)) ∧ w = w' := by
  go_enter Try.func20, Try.ntmps20
  go_wp2
  all_goals go_ret
  all_goals exact ⟨ret_bool (by rw [Bool.eq_iff_iff]; simp [Lx.isDigit]; omega), rfl⟩

set_option maxHeartbeats 400000 in
theorem isLetter_any (c : UInt8) (w : World) : Calls Try.prog 22 #[.int .u8 c.toNat] w fun e w' => e = .returned (.bool (Lx.isLetter c)) ∧ w = w' := by
  go_enter Try.func22, Try.ntmps22
  go_wp2
  all_goals go_ret
  all_goals exact ⟨ret_bool (by rw [Bool.eq_iff_iff]; simp [Lx.isLetter]; omega), rfl⟩

set_option maxHeartbeats 400000 in
theorem isPart_any (c : UInt8) (w : World) : Calls Try.prog 30 #[.int .u8 c.toNat] w fun e w' => e = .returned (.bool (Lx.isPart c)) ∧ w = w' := by
  go_enter Try.func30, Try.ntmps30
  go_wp2_with (first
    | (go_at_call 22; refine (isLetter_any _ _).mono ?_; rintro e w' ⟨rfl, rfl⟩)
    | (go_at_call 20; refine (isDigit_any _ _).mono ?_; rintro e w' ⟨rfl, rfl⟩))
  all_goals go_ret
  all_goals exact ⟨ret_bool (by simp [Lx.isPart, *]), rfl⟩

theorem size_list (s : ByteArray) : s.size = s.data.toList.length := rfl
theorem takeWhile_pre {p : UInt8 → Bool} : ∀ (l : List UInt8) (k : Nat), k ≤ l.length → (l.take k).all p = true → (∀ c, l[k]? = some c → p c = false) → l.takeWhile p = l.take k
  | [], k, h, _, _ => by simp
  | c :: l, 0, _, _, h => by simp [h c rfl]
  | c :: l, k + 1, hk, ha, h => by
    simp at ha hk
    rw [List.take_succ_cons, List.takeWhile_cons, if_pos ha.1, takeWhile_pre l k hk (by simpa using ha.2) (by simpa using h)]

theorem str_ext {a b : ByteArray} (h : a.data.toList = b.data.toList) : a = b := by
  cases a; cases b; simp only at h; congr; exact Array.toList_inj.1 h
theorem take_str (s d : ByteArray) (k : Nat) (h : d.data.toList = s.data.toList.take k) : s.extract 0 k = d := by
  refine str_ext ?_
  rw [h]
  simp [ByteArray.data_extract]

set_option maxHeartbeats 400000 in
theorem head_digits (s d : ByteArray) (hd : d.data.toList = s.data.toList.takeWhile Lx.isDigit) (hs : s.size ≤ maxLen) (w : World) :
    Calls Try.prog 28 #[.string s, .func (Fn.func 20) #[] #[]] w fun e w' => e = .returned (.string d) ∧ w = w' := by
  unfold maxLen at hs
  have HE := Lib.hid hd
  clear hd
  go_enter Try.func28, Try.ntmps28
  go_wp2
  go_loop [5] (fun i => ∃ k : Nat, k ≤ s.size ∧ i = .int .i64 k ∧ (s.data.toList.take k).all Lx.isDigit = true) (fun i => s.size - (intOf i).toNat)
  case atStart => exact ⟨0, Nat.zero_le _, rfl, by simp⟩
  case round =>
    obtain ⟨k, hk, rfl, ha⟩ := hrel
    by_cases hlt : k < s.size
    · by_cases hd : Lx.isDigit s[k] = true
      · have hn : (s.data.toList.take (k + 1)).all Lx.isDigit = true := by
          rw [List.take_succ_eq_append_getElem (by simpa using hlt), List.all_append, ha]
          simp only [List.all_cons, List.all_nil, Bool.and_true, Bool.true_and]
          exact hd
        have HN := Lib.hid hn
        have HD := Lib.hid hd
        clear hn ha hd
        go_wp2_with (go_at_call 20; refine (isDigit_any _ _).mono ?_; rintro e w' ⟨rfl, rfl⟩; rw [HD.out])
        go_round
        case rel => exact ⟨k + 1, by omega, by go_num, HN.out⟩
        case measure => simp [intOf]; omega
      · have hr : s.data.toList.takeWhile Lx.isDigit = s.data.toList.take k := takeWhile_pre _ _ hk ha (fun c hc => by
          have e : s.data.toList[k]? = some s[k] := List.getElem?_eq_getElem (by simpa using hlt)
          rw [e] at hc
          obtain rfl := Option.some.inj hc
          simpa using hd)
        have hd' : Lx.isDigit s[k] = false := by simpa using hd
        have HD := Lib.hid hd'
        have HR := Lib.hid hr
        clear hd hd' hr ha
        go_wp2_with (go_at_call 20; refine (isDigit_any _ _).mono ?_; rintro e w' ⟨rfl, rfl⟩; rw [HD.out])
        go_ret
        exact ⟨ret_str (take_str _ _ _ (by rw [HE.out, HR.out])), rfl⟩
    · have hr : s.data.toList.takeWhile Lx.isDigit = s.data.toList.take k := takeWhile_pre _ _ hk ha (fun c hc => by
        rw [List.getElem?_eq_none (by simp at hlt ⊢; omega)] at hc
        cases hc)
      have HR := Lib.hid hr
      clear hr ha
      go_wp2
      go_ret
      exact ⟨ret_str (take_str _ _ _ (by rw [HE.out, HR.out])), rfl⟩

set_option maxHeartbeats 400000 in
theorem head_parts (s d : ByteArray) (hd : d.data.toList = s.data.toList.takeWhile Lx.isPart) (hs : s.size ≤ maxLen) (w : World) :
    Calls Try.prog 28 #[.string s, .func (Fn.func 30) #[] #[]] w fun e w' => e = .returned (.string d) ∧ w = w' := by
  unfold maxLen at hs
  have HE := Lib.hid hd
  clear hd
  go_enter Try.func28, Try.ntmps28
  go_wp2
  go_loop [5] (fun i => ∃ k : Nat, k ≤ s.size ∧ i = .int .i64 k ∧ (s.data.toList.take k).all Lx.isPart = true) (fun i => s.size - (intOf i).toNat)
  case atStart => exact ⟨0, Nat.zero_le _, rfl, by simp⟩
  case round =>
    obtain ⟨k, hk, rfl, ha⟩ := hrel
    by_cases hlt : k < s.size
    · by_cases hd : Lx.isPart s[k] = true
      · have hn : (s.data.toList.take (k + 1)).all Lx.isPart = true := by
          rw [List.take_succ_eq_append_getElem (by simpa using hlt), List.all_append, ha]
          simp only [List.all_cons, List.all_nil, Bool.and_true, Bool.true_and]
          exact hd
        have HN := Lib.hid hn
        have HD := Lib.hid hd
        clear hn ha hd
        go_wp2_with (go_at_call 30; refine (isPart_any _ _).mono ?_; rintro e w' ⟨rfl, rfl⟩; rw [HD.out])
        go_round
        case rel => exact ⟨k + 1, by omega, by go_num, HN.out⟩
        case measure => simp [intOf]; omega
      · have hr : s.data.toList.takeWhile Lx.isPart = s.data.toList.take k := takeWhile_pre _ _ hk ha (fun c hc => by
          have e : s.data.toList[k]? = some s[k] := List.getElem?_eq_getElem (by simpa using hlt)
          rw [e] at hc
          obtain rfl := Option.some.inj hc
          simpa using hd)
        have hd' : Lx.isPart s[k] = false := by simpa using hd
        have HD := Lib.hid hd'
        have HR := Lib.hid hr
        clear hd hd' hr ha
        go_wp2_with (go_at_call 30; refine (isPart_any _ _).mono ?_; rintro e w' ⟨rfl, rfl⟩; rw [HD.out])
        go_ret
        exact ⟨ret_str (take_str _ _ _ (by rw [HE.out, HR.out])), rfl⟩
    · have hr : s.data.toList.takeWhile Lx.isPart = s.data.toList.take k := takeWhile_pre _ _ hk ha (fun c hc => by
        rw [List.getElem?_eq_none (by simp at hlt ⊢; omega)] at hc
        cases hc)
      have HR := Lib.hid hr
      clear hr ha
      go_wp2
      go_ret
      exact ⟨ret_str (take_str _ _ _ (by rw [HE.out, HR.out])), rfl⟩
end Go.Proofs.Ytlmfjaaooklhnaa
