/- The lexer's functions that read one word: names, any word, gaps, places. -/
import Derived.Test.YtlmfjaaooklhnaaLexC
namespace Go.Proofs.Ytlmfjaaooklhnaa
open Go.ChangeShapes Go.WideShapes Go.ChangeAt Go.RowKit

theorem byte95 {c : UInt8} (h : ((c.toNat : Int) == 95) = true) : c = 95 := by
  have h2 : c.toNat = 95 := by have := beq_iff_eq.1 h; omega
  exact UInt8.toNat_inj.1 h2
theorem not95 {c : UInt8} (h : ((c.toNat : Int) == 95) = false) : ¬ c = 95 := by
  rintro rfl
  simp at h

set_option maxHeartbeats 1000000 in
theorem name_any (s : ByteArray) (hs : s.size ≤ maxLen) (h0 : 0 < s.size) (hl : Lx.isLetter s[0] = true) (w : World) :
    Calls Try.prog 23 #[.string s] w fun e w' => e = .returned (wv (Lx.name s.data.toList)) ∧ Below w.heap.size w w' := by
  obtain ⟨d, hd⟩ : ∃ d : ByteArray, d.data.toList = s.data.toList.takeWhile Lx.isPart := ⟨⟨(s.data.toList.takeWhile Lx.isPart).toArray⟩, rfl⟩
  have hds : d.size ≤ s.size := by
    have := (List.takeWhile_prefix (l := s.data.toList) Lx.isPart).length_le
    rw [← hd] at this
    exact this
  have hd0 : 0 < d.size := by
    have e : d.size = d.data.toList.length := rfl
    have e0 : s.data.toList[0]? = some s[0] := List.getElem?_eq_getElem (by simpa using h0)
    rw [e, hd]
    cases hc : s.data.toList with
    | nil => rw [hc] at e0; cases e0
    | cons c r =>
      rw [hc] at e0
      simp at e0
      subst e0
      rw [List.takeWhile_cons, if_pos (by unfold Lx.isPart; rw [hl]; rfl)]
      simp
  have HH := Lib.hid (head_is d hd0)
  have HD := Lib.hid hd
  clear hd hl
  have hd0' : 0 < d.data.size := hd0
  unfold maxLen at hs
  go_enter Try.func23, Try.ntmps23
  go_wp2_with (first
    | (go_at_call 28; refine (head_parts _ d HD.out (by unfold maxLen; omega) _).mono ?_; rintro e w' ⟨rfl, rfl⟩)
    | (go_at_call 31; refine (isKey_any _ _).mono ?_; rintro e w' ⟨rfl, rfl⟩))
  · refine bodyPost_ret (v := .tuple #[.agg #[.int .u8 0, .string ⟨#[]⟩, .int .i32 0, .int .i64 0, .int .i64 0], .int .i64 3]) (by simp [results, Try.results23, go_sem]) rfl ⟨congrArg _ (wv_mk ?_), (Below.refl _ _).alloc (Nat.le_refl _) _⟩
    rw [name_eq s d HD.out, if_pos (by omega)]
  · refine bodyPost_ret (v := .tuple #[.agg #[.int .u8 0, .string ⟨#[]⟩, .int .i32 0, .int .i64 0, .int .i64 0], .int .i64 1]) (by simp [results, Try.results23, go_sem]) rfl ⟨congrArg _ (wv_mk ?_), (Below.refl _ _).alloc (Nat.le_refl _) _⟩
    rw [name_eq s d HD.out, if_neg (by omega), if_pos (by rw [HH.out]; exact byte95 ‹_›)]
  · refine bodyPost_ret (v := .tuple #[.agg #[.int .u8 4, .string d, .int .i32 0, .int .i64 0, .int .i64 0], .int .i64 0]) (by simp [results, Try.results23, go_sem]) rfl ⟨congrArg _ (wv_mk ?_), (Below.refl _ _).alloc (Nat.le_refl _) _⟩
    rw [name_eq s d HD.out, if_neg (by omega), if_neg (by rw [HH.out]; exact not95 ‹_›), if_pos (by assumption)]
  · refine bodyPost_ret (v := .tuple #[.agg #[.int .u8 3, .string d, .int .i32 0, .int .i64 0, .int .i64 0], .int .i64 0]) (by simp [results, Try.results23, go_sem]) rfl ⟨congrArg _ (wv_mk ?_), (Below.refl _ _).alloc (Nat.le_refl _) _⟩
    rw [name_eq s d HD.out, if_neg (by omega), if_neg (by rw [HH.out]; exact not95 ‹_›), if_neg (by simp only [Bool.not_eq_true]; assumption), if_pos (by rw [HH.out]; assumption)]
  · refine bodyPost_ret (v := .tuple #[.agg #[.int .u8 2, .string d, .int .i32 0, .int .i64 0, .int .i64 0], .int .i64 0]) (by simp [results, Try.results23, go_sem]) rfl ⟨congrArg _ (wv_mk ?_), (Below.refl _ _).alloc (Nat.le_refl _) _⟩
    rw [name_eq s d HD.out, if_neg (by omega), if_neg (by rw [HH.out]; exact not95 ‹_›), if_neg (by simp only [Bool.not_eq_true]; assumption), if_neg (by rw [HH.out]; omega)]

theorem bcell {W w1 : World} (hb : Below W.heap.size W w1) : (∀ b o, b < W.heap.size → w1.cell? ⟨b, o, none⟩ = W.cell? ⟨b, o, none⟩) ∧ (∀ b o, b < W.heap.size → w1.frozen? ⟨b, o, none⟩ = W.frozen? ⟨b, o, none⟩) :=
  ⟨fun b o h => hb.cell (p := ⟨b, o, none⟩) h, fun b o h => hb.frozen (p := ⟨b, o, none⟩) h⟩
theorem word_nil {l : List UInt8} (h : l = []) : Lx.word l = ⟨0, [], 0, 0⟩ := by rw [h]; rfl
theorem word_cons (s : ByteArray) (h0 : 0 < s.size) : Lx.word s.data.toList = if Lx.isDigit s[0] = true then Lx.number s.data.toList else if Lx.isLetter s[0] = true then Lx.name s.data.toList else Lx.sign s.data.toList := by
  have e : s.data.toList[0]? = some s[0] := List.getElem?_eq_getElem (by simpa using h0)
  cases hl : s.data.toList with
  | nil => rw [hl] at e; cases e
  | cons c r =>
    rw [hl] at e
    simp at e
    subst e
    rfl

set_option maxHeartbeats 1000000 in
theorem word_any (s : ByteArray) (hs : s.size ≤ maxLen) (w : World) :
    Calls Try.prog 14 #[.string s] w fun e w' => e = .returned (wv (Lx.word s.data.toList)) ∧ Below w.heap.size w w' := by
  by_cases h0 : 0 < s.size
  · have hw := word_cons s h0
    have h0' : 0 < s.data.size := h0
    have hne : (s.toList == []) = false := by
      rw [toList_data]
      cases hl : s.data.toList with
      | nil => have : s.size = 0 := by rw [size_list, hl]; rfl
               omega
      | cons c r => rfl
    have hne2 : s.toList.isEmpty = false := by
      rw [toList_data]
      cases hl : s.data.toList with
      | nil => have : s.size = 0 := by rw [size_list, hl]; rfl
               omega
      | cons c r => rfl
    by_cases hd : Lx.isDigit s[0] = true
    · rw [if_pos hd] at hw
      have HD := Lib.hid hd
      clear hd
      obtain ⟨x, hx⟩ : ∃ x, Lx.number s.data.toList = x := ⟨_, rfl⟩
      rw [hx] at hw
      have HX := Lib.hid hx
      have HW := Lib.hid hw
      clear hx hw
      go_enter Try.func14, Try.ntmps14
      go_wp2_with (first
        | (go_at_call 20; refine (isDigit_any _ _).mono ?_; rintro e w' ⟨rfl, rfl⟩; rw [HD.out])
        | (go_at_call 21; refine (number_any _ hs _).mono ?_; rintro e w1 ⟨rfl, hb⟩; obtain ⟨hcc, hff⟩ := bcell hb; have hz : w.heap.size < w1.heap.size := (by have := hb.size; simp at this; omega); rw [HX.out]; unfold wv))
      exact bodyPost_ret (v := .tuple #[.agg #[.int .u8 x.k, .string ⟨x.t.toArray⟩, .int .i32 x.n, .int .i64 0, .int .i64 0], .int .i64 x.bad]) (by simp [results, Try.results14, go_sem, hcc]) rfl ⟨by rw [HW.out]; rfl, (((((((Below.refl _ _).alloc (Nat.le_refl _) _).trans (hb.mono (by simp))).setCell (Nat.le_refl _) _).setCell (Nat.le_refl _) _).setCell (Nat.le_refl _) _).setCell (Nat.le_refl _) _).setCell (Nat.le_refl _) _⟩
    · have hd' : Lx.isDigit s[0] = false := by simpa using hd
      rw [if_neg hd] at hw
      have HD := Lib.hid hd'
      clear hd hd'
      by_cases hl : Lx.isLetter s[0] = true
      · rw [if_pos hl] at hw
        have HL := Lib.hid hl
        clear hl
        obtain ⟨x, hx⟩ : ∃ x, Lx.name s.data.toList = x := ⟨_, rfl⟩
        rw [hx] at hw
        have HX := Lib.hid hx
        have HW := Lib.hid hw
        clear hx hw
        go_enter Try.func14, Try.ntmps14
        go_wp2_with (first
          | (go_at_call 20; refine (isDigit_any _ _).mono ?_; rintro e w' ⟨rfl, rfl⟩; rw [HD.out])
          | (go_at_call 22; refine (isLetter_any _ _).mono ?_; rintro e w' ⟨rfl, rfl⟩; rw [HL.out])
          | (go_at_call 23; refine (name_any _ hs h0 HL.out _).mono ?_; rintro e w1 ⟨rfl, hb⟩; obtain ⟨hcc, hff⟩ := bcell hb; have hz : w.heap.size < w1.heap.size := (by have := hb.size; simp at this; omega); rw [HX.out]; unfold wv))
        exact bodyPost_ret (v := .tuple #[.agg #[.int .u8 x.k, .string ⟨x.t.toArray⟩, .int .i32 x.n, .int .i64 0, .int .i64 0], .int .i64 x.bad]) (by simp [results, Try.results14, go_sem, hcc]) rfl ⟨by rw [HW.out]; rfl, (((((((Below.refl _ _).alloc (Nat.le_refl _) _).trans (hb.mono (by simp))).setCell (Nat.le_refl _) _).setCell (Nat.le_refl _) _).setCell (Nat.le_refl _) _).setCell (Nat.le_refl _) _).setCell (Nat.le_refl _) _⟩
      · have hl' : Lx.isLetter s[0] = false := by simpa using hl
        rw [if_neg hl] at hw
        have HL := Lib.hid hl'
        clear hl hl'
        obtain ⟨x, hx⟩ : ∃ x, Lx.sign s.data.toList = x := ⟨_, rfl⟩
        rw [hx] at hw
        have HX := Lib.hid hx
        have HW := Lib.hid hw
        clear hx hw
        go_enter Try.func14, Try.ntmps14
        go_wp2_with (first
          | (go_at_call 20; refine (isDigit_any _ _).mono ?_; rintro e w' ⟨rfl, rfl⟩; rw [HD.out])
          | (go_at_call 22; refine (isLetter_any _ _).mono ?_; rintro e w' ⟨rfl, rfl⟩; rw [HL.out])
          | (go_at_call 24; refine (sign_any _ hs h0 _).mono ?_; rintro e w1 ⟨rfl, hb⟩; obtain ⟨hcc, hff⟩ := bcell hb; have hz : w.heap.size < w1.heap.size := (by have := hb.size; simp at this; omega); rw [HX.out]; unfold wv))
        exact bodyPost_ret (v := .tuple #[.agg #[.int .u8 x.k, .string ⟨x.t.toArray⟩, .int .i32 x.n, .int .i64 0, .int .i64 0], .int .i64 x.bad]) (by simp [results, Try.results14, go_sem, hcc]) rfl ⟨by rw [HW.out]; rfl, (((((((Below.refl _ _).alloc (Nat.le_refl _) _).trans (hb.mono (by simp))).setCell (Nat.le_refl _) _).setCell (Nat.le_refl _) _).setCell (Nat.le_refl _) _).setCell (Nat.le_refl _) _).setCell (Nat.le_refl _) _⟩
  · have hl : s.data.toList = [] := List.eq_nil_of_length_eq_zero (by rw [← size_list]; omega)
    have hT : s.toList = [] := by rw [toList_data, hl]
    have HL := Lib.hid (word_nil hl)
    clear hl
    go_enter Try.func14, Try.ntmps14
    go_wp2
    exact bodyPost_ret (v := .tuple #[.agg #[.int .u8 0, .string ⟨#[]⟩, .int .i32 0, .int .i64 0, .int .i64 0], .int .i64 0]) (by simp [results, Try.results14, go_sem]) rfl ⟨by rw [HL.out]; rfl, (Below.refl _ _).alloc (Nat.le_refl _) _⟩

end Go.Proofs.Ytlmfjaaooklhnaa
