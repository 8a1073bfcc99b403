/- The document's example of the lexer. -/
import Derived.Test.YtlmfjaaooklhnaaLexF
namespace Go.Proofs.Ytlmfjaaooklhnaa
open Go.ChangeShapes Go.WideShapes Go.ChangeAt Go.RowKit
set_option linter.unusedVariables false

theorem lx_awake : Lx.lx [120, 61, 45, 49] 1 1 = .inl [⟨2, [120], 0, 1, 1⟩, ⟨5, [61], 0, 1, 2⟩, ⟨5, [45], 0, 1, 3⟩, ⟨1, [49], 1, 1, 4⟩, ⟨0, [], 0, 1, 5⟩] := by kernel_rfl
theorem addr_add (g j : Nat) : (⟨g, 0, none⟩ : Addr).add j = ⟨g, j, none⟩ := by
  by_cases h : j = 0
  · subst h; rfl
  · simp [Addr.add, h]
/-- A list of words in memory that is not empty: its cells. -/
theorem row_cells {w : World} {base : Nat} {e : TypeId} {size n : Nat} {v : Value} {xs : List Value} (h : w.ownsRow base e size v (n + 1) xs) :
    ∃ g cap, v = .slice (some ⟨g, 0, none⟩) (n + 1) cap ∧ base ≤ g ∧ n + 1 ≤ cap ∧ cap ≤ maxLen ∧ ∀ (j : Nat) (u : Value), xs[j]? = some u → w.cell? ⟨g, j, none⟩ = some u := by
  rcases h.2 with ⟨_, h0⟩ | ⟨g, cap, cur, rfl, hg, hh, h1, h2, _⟩
  · cases h0
  · refine ⟨g, cap, rfl, hg, h1, h2, fun j u hj => ?_⟩
    have := h.cells (g := g) rfl j u hj
    rwa [addr_add] at this

set_option maxRecDepth 100000 in
set_option maxHeartbeats 2000000 in
theorem awake_any (W : World) : Calls Try.prog 5 #[] W fun e w' => e = .returned (.bool true) ∧ Below W.heap.size W w' := by
  have hO := words_any ⟨#[120, 61, 45, 49]⟩ (by decide) W
  have hO2 : Calls Try.prog 7 #[.string ⟨#[120, 61, 45, 49]⟩] W (WordsOut (.inl [⟨2, [120], 0, 1, 1⟩, ⟨5, [61], 0, 1, 2⟩, ⟨5, [45], 0, 1, 3⟩, ⟨1, [49], 1, 1, 4⟩, ⟨0, [], 0, 1, 5⟩]) W) := by
    rw [← lx_awake]; exact hO
  have HO := Lib.hid hO2
  clear hO hO2
  go_enter Try.func5, Try.ntmps5
  go_wp2_with (go_at_call 7; refine HO.out.mono ?_; rintro e w1 ⟨v, rfl, hown, hb⟩; obtain ⟨g, cap, rfl, hg, hc1, hc2, hcell⟩ := row_cells hown; have q1 := hcell 15 _ rfl; have q2 := hcell 17 _ rfl; have q3 := hcell 20 _ rfl; have q4 := hcell 23 _ rfl; have q5 := hcell 24 _ rfl; clear hcell hown hg)
  go_ret
  exact ⟨rfl, hb⟩

end Go.Proofs.Ytlmfjaaooklhnaa
