/- Which words are keys. -/
import Derived.Test.YtlmfjaaooklhnaaLexA
namespace Go.Proofs.Ytlmfjaaooklhnaa
open Go.ChangeShapes Go.WideShapes Go.ChangeAt Go.RowKit

theorem toList_data (s : ByteArray) : s.toList = s.data.toList := by
  obtain ⟨⟨l⟩⟩ := s
  simp
theorem isKey_eq (l : List UInt8) : Lx.isKey l = ((l == [97,110,100]) || ((l == [97,117,116,111,109,97,116,111,110]) || ((l == [98,111,111,108]) || ((l == [99,111,110,116,105,110,117,101]) || ((l == [100,111]) || ((l == [101,108,115,101]) || ((l == [101,110,100]) || ((l == [101,118,101,114,121]) || ((l == [102,97,108,115,101]) || ((l == [102,98,121]) || ((l == [105,102]) || ((l == [105,110,116]) || ((l == [108,97,115,116]) || ((l == [108,101,116]) || ((l == [109,101,114,103,101]) || ((l == [109,111,100]) || ((l == [110,111,100,101]) || ((l == [110,111,116]) || ((l == [111,114]) || ((l == [112,114,101]) || ((l == [114,101,115,101,116]) || ((l == [114,101,116,117,114,110,115]) || ((l == [115,119,105,116,99,104]) || ((l == [116,101,108]) || ((l == [116,104,101,110]) || ((l == [116,114,117,101]) || ((l == [116,121,112,101]) || ((l == [117,110,108,101,115,115]) || ((l == [117,110,116,105,108]) || ((l == [118,97,114]) || ((l == [119,104,101,110]) || ((l == [120,111,114]))))))))))))))))))))))))))))))))) := by
  simp only [Lx.isKey, Lx.keys, List.contains_cons, List.contains_nil, Bool.or_false]

set_option maxHeartbeats 4000000 in
theorem isKey_any (s : ByteArray) (w : World) :
    Calls Try.prog 31 #[.string s] w fun e w' => e = .returned (.bool (Lx.isKey s.data.toList)) ∧ w = w' := by
  go_enter Try.func31, Try.ntmps31
  go_wp2
  all_goals go_ret
  all_goals refine ⟨ret_bool ?_, rfl⟩
  all_goals rw [← toList_data s, isKey_eq]
  all_goals first | (simp only [*, Bool.true_or, Bool.or_true, Bool.or_self]; done) | (exfalso; simp_all; done)
end Go.Proofs.Ytlmfjaaooklhnaa
