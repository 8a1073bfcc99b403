/- The lexer's functions that read one word: signs, names, gaps. -/
import Derived.Test.YtlmfjaaooklhnaaLexB
import Derived.Test.YtlmfjaaooklhnaaLexK
import Derived.Test.YtlmfjaaooklhnaaShelf
import Derived.Lib.IndexAny
import Derived.Lib.IndexLaws
import Derived.BigQuiet
import Derived.Deep.QuietTactic
import Derived.Outline
namespace Go.Proofs.Ytlmfjaaooklhnaa
open Go.ChangeShapes Go.WideShapes Go.ChangeAt Go.RowKit

theorem ones_neg (c : UInt8) : (Lib.indexByte Lx.ones c < 0) ↔ Lx.ones.contains c = false := by
  have h := Lib.contains_iff_indexByte Lx.ones c
  rw [h]
  simp
theorem ones_pos (c : UInt8) : (0 ≤ Lib.indexByte Lx.ones c) ↔ Lx.ones.contains c = true := by
  have h := Lib.contains_iff_indexByte Lx.ones c
  rw [h]
  simp
theorem sign_eq2 (s : ByteArray) (h : (Lx.twos.contains (s.data.toList.take 2)) = true) : Lx.sign s.data.toList = ⟨5, s.data.toList.take 2, 0, 0⟩ := by
  unfold Lx.sign; rw [if_pos h]
theorem sign_eq1 (s : ByteArray) (h : (Lx.twos.contains (s.data.toList.take 2)) = false) (g : Lx.ones.contains (s.data.toList.headD 0) = true) : Lx.sign s.data.toList = ⟨5, s.data.toList.take 1, 0, 0⟩ := by
  unfold Lx.sign; rw [if_neg (by rw [h]; decide), if_pos g]
theorem sign_eq0 (s : ByteArray) (h : (Lx.twos.contains (s.data.toList.take 2)) = false) (g : Lx.ones.contains (s.data.toList.headD 0) = false) : Lx.sign s.data.toList = ⟨0, [], 0, 1⟩ := by
  unfold Lx.sign; rw [if_neg (by rw [h]; decide), if_neg (by rw [g]; decide)]
theorem extract_take (s : ByteArray) (k : Nat) : (s.extract 0 k).data.toList = s.data.toList.take k := by simp [ByteArray.data_extract]
theorem extract_takeT (s : ByteArray) (k : Nat) : (s.extract 0 k).toList = s.data.toList.take k := by rw [toList_data, extract_take]

set_option maxHeartbeats 1000000 in
theorem sign_any (s : ByteArray) (hs : s.size ≤ maxLen) (h0 : 0 < s.size) (w : World) :
    Calls Try.prog 24 #[.string s] w fun e w' => e = .returned (wv (Lx.sign s.data.toList)) ∧ Below w.heap.size w w' := by
  have hh := head_is s h0
  have HH := Lib.hid hh
  clear hh
  have h0' : 0 < s.data.size := h0
  unfold maxLen at hs
  by_cases h1 : 1 < s.size
  · have ht := extract_takeT s 2
    obtain ⟨t, hx⟩ : ∃ t, s.data.toList.take 2 = t := ⟨_, rfl⟩
    rw [hx] at ht
    have HX := Lib.hid hx
    clear hx
    by_cases he : Lx.twos.contains t = true
    · have h4 : t = [60, 62] ∨ t = [60, 61] ∨ t = [62, 61] ∨ t = [45, 62] := by simpa [Lx.twos] using he
      have HE := Lib.hid he
      clear he
      rcases h4 with rfl | rfl | rfl | rfl
      all_goals
        go_enter Try.func24, Try.ntmps24
        go_wp2
        refine bodyPost_ret (v := .tuple #[.agg #[.int .u8 5, .string (s.extract 0 2), .int .i32 0, .int .i64 0, .int .i64 0], .int .i64 0]) (by simp [results, Try.results24, go_sem]) rfl ⟨congrArg _ (wv_mk ?_), (Below.refl _ _).alloc (Nat.le_refl _) _⟩
        rw [sign_eq2 s (by rw [HX.out]; exact HE.out), extract_take]
    · have he' : Lx.twos.contains t = false := by simpa using he
      obtain ⟨f1, f2, f3, f4⟩ : (t == [60, 62]) = false ∧ (t == [60, 61]) = false ∧ (t == [62, 61]) = false ∧ (t == [45, 62]) = false := by simpa [Lx.twos] using he'
      have HE := Lib.hid he'
      clear he he'
      go_enter Try.func24, Try.ntmps24
      go_wp2_with (go_at_call 32; refine (Try.strings_IndexByte _ _ _).mono ?_; rintro e w' ⟨rfl, rfl⟩)
      · refine bodyPost_ret (v := .tuple #[.agg #[.int .u8 0, .string ⟨#[]⟩, .int .i32 0, .int .i64 0, .int .i64 0], .int .i64 1]) (by simp [results, Try.results24, go_sem]) rfl ⟨congrArg _ (wv_mk ?_), (Below.refl _ _).alloc (Nat.le_refl _) _⟩
        rw [sign_eq0 s (by rw [HX.out]; exact HE.out) (by rw [HH.out]; exact (ones_neg _).1 ‹_›)]
      · refine bodyPost_ret (v := .tuple #[.agg #[.int .u8 5, .string (s.extract 0 1), .int .i32 0, .int .i64 0, .int .i64 0], .int .i64 0]) (by simp [results, Try.results24, go_sem]) rfl ⟨congrArg _ (wv_mk ?_), (Below.refl _ _).alloc (Nat.le_refl _) _⟩
        rw [sign_eq1 s (by rw [HX.out]; exact HE.out) (by rw [HH.out]; exact (ones_pos _).1 ‹_›), extract_take]
  · have hl : s.data.toList.length = 1 := by rw [← size_list]; omega
    have HL := Lib.hid (show Lx.twos.contains (s.data.toList.take 2) = false from by
      rw [List.take_of_length_le (by omega)]
      match s.data.toList, hl with
      | [c], _ => simp [Lx.twos])
    clear hl
    go_enter Try.func24, Try.ntmps24
    go_wp2_with (go_at_call 32; refine (Try.strings_IndexByte _ _ _).mono ?_; rintro e w' ⟨rfl, rfl⟩)
    · refine bodyPost_ret (v := .tuple #[.agg #[.int .u8 0, .string ⟨#[]⟩, .int .i32 0, .int .i64 0, .int .i64 0], .int .i64 1]) (by simp [results, Try.results24, go_sem]) rfl ⟨congrArg _ (wv_mk ?_), (Below.refl _ _).alloc (Nat.le_refl _) _⟩
      rw [sign_eq0 s HL.out (by rw [HH.out]; exact (ones_neg _).1 ‹_›)]
    · refine bodyPost_ret (v := .tuple #[.agg #[.int .u8 5, .string (s.extract 0 1), .int .i32 0, .int .i64 0, .int .i64 0], .int .i64 0]) (by simp [results, Try.results24, go_sem]) rfl ⟨congrArg _ (wv_mk ?_), (Below.refl _ _).alloc (Nat.le_refl _) _⟩
      rw [sign_eq1 s HL.out (by rw [HH.out]; exact (ones_pos _).1 ‹_›), extract_take]

end Go.Proofs.Ytlmfjaaooklhnaa
