/- The words that the laws make. -/
import Derived.Test.YtlmfjaaooklhnaaLexKy
import Derived.Test.YtlmfjaaooklhnaaLxJ
import Derived.RegionTactic
import Derived.BigQuiet
import Derived.Deep.QuietTactic
namespace Go.Proofs.Ytlmfjaaooklhnaa
open Go.ChangeShapes Go.WideShapes Go.ChangeAt Go.RowKit
set_option linter.unusedVariables false
set_option linter.unusedSimpArgs false
/-- A word of a kind. -/
def FineS (s : ByteArray) : Prop := ∃ k n, Lx.Fine (k, s.data.toList, n)
def WordOut (W : World) (e : Ending) (w' : World) : Prop := ∃ s : ByteArray, e = .returned (.string s) ∧ FineS s ∧ Below W.heap.size W w'
set_option maxRecDepth 100000 in
set_option maxHeartbeats 1000000 in
theorem word_key (k : Int) (h0 : 0 ≤ k) (h1 : k < 256) (hk : k % 5 = 2) (a : Option Addr) (n cap : Nat) (hn : n ≤ 140737488355328) (W : World) :
    Calls Try.prog 6 #[.int .u8 k, .slice a n cap] W (WordOut W) := by
  obtain ⟨j, hj⟩ : ∃ j : Nat, (n : Int) * 7 % 32 = j := ⟨((n : Int) * 7 % 32).toNat, by omega⟩
  have hj32 : j < 32 := by omega
  obtain ⟨z, hz⟩ : ∃ z, Lx.keys[j]? = some z := ⟨_, List.getElem?_eq_getElem (show j < Lx.keys.length from hj32)⟩
  have hf := Lx.fine_key z (List.mem_of_getElem? hz)
  have HZ := Lib.hid hz
  clear hz
  go_enter Try.func6, Try.ntmps6
  go_wp2_with (go_at_call 10; refine (keys_any _).mono ?_; rintro e w2 ⟨rfl, hkk, hb⟩; have hcell := (hkk j z HZ.out); clear hkk)
  go_ret
  exact ⟨_, rfl, ⟨4, 0, by simpa using hf⟩, hb⟩
set_option maxRecDepth 100000 in
set_option maxHeartbeats 4000000 in
theorem word_sign (k : Int) (h0 : 0 ≤ k) (h1 : k < 256) (hk : k % 5 = 3) (a : Option Addr) (n cap : Nat) (hn : n ≤ 140737488355328) (W : World) :
    Calls Try.prog 6 #[.int .u8 k, .slice a n cap] W (WordOut W) := by
  have hc : (n : Int) % 17 = 0 ∨ (n : Int) % 17 = 1 ∨ (n : Int) % 17 = 2 ∨ (n : Int) % 17 = 3 ∨ (n : Int) % 17 = 4 ∨ (n : Int) % 17 = 5 ∨ (n : Int) % 17 = 6 ∨ (n : Int) % 17 = 7 ∨ (n : Int) % 17 = 8 ∨ (n : Int) % 17 = 9 ∨ (n : Int) % 17 = 10 ∨ (n : Int) % 17 = 11 ∨ (n : Int) % 17 = 12 ∨ (n : Int) % 17 = 13 ∨ (n : Int) % 17 = 14 ∨ (n : Int) % 17 = 15 ∨ (n : Int) % 17 = 16 := by omega
  rcases hc with hj | hj | hj | hj | hj | hj | hj | hj | hj | hj | hj | hj | hj | hj | hj | hj | hj
  all_goals
    go_enter Try.func6, Try.ntmps6
    go_wp2
    go_ret
    exact ⟨_, rfl, ⟨5, 0, Lx.fine_sign _ (by decide)⟩, (Below.refl _ _).alloc (Nat.le_refl _) _⟩
end Go.Proofs.Ytlmfjaaooklhnaa
