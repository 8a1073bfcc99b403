/- The lexer's functions that read one word. -/
import Derived.Test.YtlmfjaaooklhnaaLexA
namespace Go.Proofs.Ytlmfjaaooklhnaa
open Go.ChangeShapes Go.WideShapes Go.ChangeAt Go.RowKit

theorem vstep_bd (n : Int) (c : UInt8) (h : Lx.isDigit c = true) (h0 : 0 ≤ n) : 0 ≤ Lx.vstep n c ∧ Lx.vstep n c ≤ 2147483649 := by
  unfold Lx.isDigit at h
  simp at h
  unfold Lx.vstep
  omega
theorem val_bd : ∀ (l : List UInt8) (n : Int), l.all Lx.isDigit = true → 0 ≤ n → n ≤ 2147483649 → 0 ≤ l.foldl Lx.vstep n ∧ l.foldl Lx.vstep n ≤ 2147483649
  | [], n, _, h0, h1 => ⟨h0, h1⟩
  | c :: l, n, ha, h0, h1 => by
    simp only [List.all_cons, Bool.and_eq_true] at ha
    have b := vstep_bd n c ha.1 h0
    exact val_bd l _ ha.2 b.1 b.2
theorem val_snoc (l : List UInt8) (c : UInt8) : Lx.val (l ++ [c]) = Lx.vstep (Lx.val l) c := by simp [Lx.val]
theorem all_take {p : UInt8 → Bool} (l : List UInt8) (k : Nat) (h : l.all p = true) : (l.take k).all p = true := by
  rw [List.all_eq_true] at h ⊢
  exact fun x hx => h x (List.mem_of_mem_take hx)

set_option maxHeartbeats 400000 in
theorem value_any (s : ByteArray) (hs : s.size ≤ maxLen) (ha : s.data.toList.all Lx.isDigit = true) (w : World) :
    Calls Try.prog 29 #[.string s] w fun e w' => e = .returned (.int .i64 (Lx.val s.data.toList)) ∧ w = w' := by
  unfold maxLen at hs
  have HA := Lib.hid ha
  clear ha
  go_enter Try.func29, Try.ntmps29
  go_wp2
  go_loop [3, 7] (fun n i => ∃ k : Nat, k ≤ s.size ∧ i = .int .i64 k ∧ n = .int .i64 (Lx.val (s.data.toList.take k))) (fun _ i => s.size - (intOf i).toNat)
  case atStart => exact ⟨0, Nat.zero_le _, rfl, rfl⟩
  case round =>
    obtain ⟨k, hk, rfl, rfl⟩ := hrel
    by_cases hlt : k < s.size
    · have hb := val_bd (s.data.toList.take k) 0 (all_take _ _ HA.out) (by omega) (by omega)
      have hd : Lx.isDigit s[k] = true := by
        have := HA.out
        rw [List.all_eq_true] at this
        exact this _ (List.getElem_mem (by simpa using hlt))
      have hn : Lx.val (s.data.toList.take (k + 1)) = Lx.vstep (Lx.val (s.data.toList.take k)) s[k] := by
        rw [List.take_succ_eq_append_getElem (by simpa using hlt), val_snoc]
        rfl
      have HN := Lib.hid hn
      clear hn
      change 0 ≤ Lx.val (s.data.toList.take k) ∧ Lx.val (s.data.toList.take k) ≤ 2147483649 at hb
      obtain ⟨v, hv⟩ : ∃ v, Lx.val (s.data.toList.take k) = v := ⟨_, rfl⟩
      rw [hv] at hb HN ⊢
      have HV := Lib.hid hv
      clear hv
      obtain ⟨b0, b1⟩ := hb
      unfold Lx.isDigit at hd
      simp only [Bool.and_eq_true, decide_eq_true_eq] at hd
      obtain ⟨d0, d1⟩ := hd
      go_wp2
      go_round
      case rel => exact ⟨k + 1, by omega, by go_num, by rw [HN.out]; exact congrArg (Value.int .i64) (by unfold Lx.vstep; split <;> omega)⟩
      case measure => simp [intOf]; omega
    · go_wp2
      go_ret
      exact ⟨ret_int (by rw [List.take_of_length_le (by simp at hlt ⊢; omega)]), rfl⟩

/-- A word with what is wrong, as it is handed back. -/
def wv (x : Lx.Wd) : Value := .tuple #[.agg #[.int .u8 x.k, .string ⟨x.t.toArray⟩, .int .i32 x.n, .int .i64 0, .int .i64 0], .int .i64 x.bad]
theorem wv_mk {x : Lx.Wd} {k n b : Int} {t : ByteArray} (h : x = ⟨k, t.data.toList, n, b⟩) : Value.tuple #[.agg #[.int .u8 k, .string t, .int .i32 n, .int .i64 0, .int .i64 0], .int .i64 b] = wv x := by
  subst h
  rfl
theorem drop_takeWhile {p : UInt8 → Bool} : ∀ l : List UInt8, l.drop (l.takeWhile p).length = l.dropWhile p
  | [] => rfl
  | c :: l => by
    by_cases h : p c = true
    · simp [h, drop_takeWhile l]
    · simp [h]
theorem after_of (s d : ByteArray) (hd : d.data.toList = s.data.toList.takeWhile Lx.isDigit) : Lx.after s.data.toList = if h : d.size < s.size then Lx.isLetter s[d.size] else false := by
  unfold Lx.after
  rw [← drop_takeWhile, ← hd]
  by_cases h : d.size < s.size
  · rw [dif_pos h, show d.data.toList.length = d.size from rfl, List.drop_eq_getElem_cons (by simpa using h)]
    rfl
  · rw [dif_neg h, List.drop_eq_nil_of_le (by simp at h ⊢; omega)]
theorem wrapN_eq (v : Int) (h0 : 0 ≤ v) (h1 : v ≤ 2147483648) : wrap32 v = Lx.wrapN v := by
  unfold Lx.wrapN
  split
  · subst v; unfold wrap32; omega
  · unfold wrap32; omega
theorem number_eq (s d : ByteArray) (hd : d.data.toList = s.data.toList.takeWhile Lx.isDigit) (v : Int) (hv : Lx.val d.data.toList = v) :
    Lx.number s.data.toList = if 2147483648 < v then ⟨0, [], 0, 3⟩ else if Lx.after s.data.toList = true then ⟨0, [], 0, 1⟩ else ⟨1, d.data.toList, Lx.wrapN v, 0⟩ := by
  unfold Lx.number
  rw [← hd]
  simp only [hv]

set_option maxHeartbeats 1000000 in
theorem number_any (s : ByteArray) (hs : s.size ≤ maxLen) (w : World) :
    Calls Try.prog 21 #[.string s] w fun e w' => e = .returned (wv (Lx.number s.data.toList)) ∧ Below w.heap.size w w' := by
  obtain ⟨d, hd⟩ : ∃ d : ByteArray, d.data.toList = s.data.toList.takeWhile Lx.isDigit := ⟨⟨(s.data.toList.takeWhile Lx.isDigit).toArray⟩, rfl⟩
  have hda : d.data.toList.all Lx.isDigit = true := by rw [hd]; exact List.all_takeWhile
  have hds : d.size ≤ s.size := by
    have := (List.takeWhile_prefix (l := s.data.toList) Lx.isDigit).length_le
    rw [← hd] at this
    exact this
  have hb := val_bd d.data.toList 0 hda (by omega) (by omega)
  have HD := Lib.hid hd
  have HA := Lib.hid hda
  clear hd hda
  obtain ⟨v, hv⟩ : ∃ v, Lx.val d.data.toList = v := ⟨_, rfl⟩
  change 0 ≤ Lx.val d.data.toList ∧ Lx.val d.data.toList ≤ 2147483649 at hb
  rw [hv] at hb
  have HV := Lib.hid hv
  clear hv
  obtain ⟨b0, b1⟩ := hb
  unfold maxLen at hs
  go_enter Try.func21, Try.ntmps21
  go_wp2_with (first
    | (go_at_call 28; refine (head_digits _ d HD.out (by unfold maxLen; omega) _).mono ?_; rintro e w' ⟨rfl, rfl⟩)
    | (go_at_call 29; refine (value_any _ (by unfold maxLen; omega) HA.out _).mono ?_; rintro e w' ⟨rfl, rfl⟩; rw [HV.out])
    | (go_at_call 22; refine (isLetter_any _ _).mono ?_; rintro e w' ⟨rfl, rfl⟩))
  · refine bodyPost_ret (v := .tuple #[.agg #[.int .u8 0, .string ⟨#[]⟩, .int .i32 0, .int .i64 0, .int .i64 0], .int .i64 3]) (by simp [results, Try.results21, go_sem]) rfl ⟨congrArg _ (wv_mk ?_), (Below.refl _ _).alloc (Nat.le_refl _) _⟩
    rw [number_eq s d HD.out v HV.out, if_pos (by assumption)]
  · refine bodyPost_ret (v := .tuple #[.agg #[.int .u8 0, .string ⟨#[]⟩, .int .i32 0, .int .i64 0, .int .i64 0], .int .i64 1]) (by simp [results, Try.results21, go_sem]) rfl ⟨congrArg _ (wv_mk ?_), (Below.refl _ _).alloc (Nat.le_refl _) _⟩
    rw [number_eq s d HD.out v HV.out, if_neg (by omega), if_pos (by rw [after_of s d HD.out, dif_pos (by assumption)]; assumption)]
  · refine bodyPost_ret (v := .tuple #[.agg #[.int .u8 1, .string d, .int .i32 (wrap32 v), .int .i64 0, .int .i64 0], .int .i64 0]) (by simp [results, Try.results21, go_sem]) rfl ⟨congrArg _ (wv_mk ?_), (Below.refl _ _).alloc (Nat.le_refl _) _⟩
    rw [number_eq s d HD.out v HV.out, if_neg (by omega), if_neg (by rw [after_of s d HD.out, dif_pos (by assumption)]; simp; assumption), wrapN_eq v (by omega) (by omega)]
  · refine bodyPost_ret (v := .tuple #[.agg #[.int .u8 1, .string d, .int .i32 (wrap32 v), .int .i64 0, .int .i64 0], .int .i64 0]) (by simp [results, Try.results21, go_sem]) rfl ⟨congrArg _ (wv_mk ?_), (Below.refl _ _).alloc (Nat.le_refl _) _⟩
    rw [number_eq s d HD.out v HV.out, if_neg (by omega), if_neg (by rw [after_of s d HD.out, dif_neg (by assumption)]; simp), wrapN_eq v (by omega) (by omega)]

theorem name_eq (s d : ByteArray) (hd : d.data.toList = s.data.toList.takeWhile Lx.isPart) :
    Lx.name s.data.toList = if 32 < d.size then ⟨0, [], 0, 3⟩ else if d.data.toList.headD 0 = 95 then ⟨0, [], 0, 1⟩ else if Lx.isKey d.data.toList = true then ⟨4, d.data.toList, 0, 0⟩
      else if ((d.data.toList.headD 0).toNat : Int) ≤ 90 then ⟨3, d.data.toList, 0, 0⟩ else ⟨2, d.data.toList, 0, 0⟩ := by
  unfold Lx.name
  rw [← hd]
  rfl
theorem head_is (d : ByteArray) (h : 0 < d.size) : d.data.toList.headD 0 = d[0] := by
  have e : d.data.toList[0]? = some d[0] := List.getElem?_eq_getElem (by simpa using h)
  cases hl : d.data.toList with
  | nil => rw [hl] at e; cases e
  | cons c r => rw [hl] at e; simpa using e

end Go.Proofs.Ytlmfjaaooklhnaa
