/- The document's example of the lexer; which words are keys, by the reference. -/
import Derived.Test.YtkamkfakokhocaaLexF
namespace Go.Proofs.Ytkamkfakokhocaa
open Go.ChangeShapes Go.WideShapes Go.ChangeAt Go.RowKit
set_option linter.unusedVariables false

theorem lx_awake : Lx.lx [120, 61, 45, 49] 1 1 = .inl [⟨2, [120], 0, 1, 1⟩, ⟨5, [61], 0, 1, 2⟩, ⟨5, [45], 0, 1, 3⟩, ⟨1, [49], 1, 1, 4⟩, ⟨0, [], 0, 1, 5⟩] := by kernel_rfl
theorem addr_add (g j : Nat) : (⟨g, 0, none⟩ : Addr).add j = ⟨g, j, none⟩ := by
  by_cases h : j = 0
  · subst h; rfl
  · simp [Addr.add, h]
/-- A list of words in memory that is not empty: its cells. -/
theorem row_cells {w : World} {base : Nat} {e : TypeId} {size n : Nat} {v : Value} {xs : List Value} (h : w.ownsRow base e size v (n + 1) xs) :
    ∃ g cap, v = .slice (some ⟨g, 0, none⟩) (n + 1) cap ∧ base ≤ g ∧ n + 1 ≤ cap ∧ cap ≤ maxLen ∧ ∀ (j : Nat) (u : Value), xs[j]? = some u → w.cell? ⟨g, j, none⟩ = some u := by
  rcases h.2 with ⟨_, h0⟩ | ⟨g, cap, cur, rfl, hg, hh, h1, h2, _⟩
  · cases h0
  · refine ⟨g, cap, rfl, hg, h1, h2, fun j u hj => ?_⟩
    have := h.cells (g := g) rfl j u hj
    rwa [addr_add] at this

set_option maxRecDepth 100000 in
set_option maxHeartbeats 2000000 in
theorem awake_any (W : World) : Calls Try.prog 7 #[] W fun e w' => e = .returned (.bool true) ∧ Below W.heap.size W w' := by
  have hO := words_any ⟨#[120, 61, 45, 49]⟩ (by decide) W
  have hO2 : Calls Try.prog 11 #[.string ⟨#[120, 61, 45, 49]⟩] W (WordsOut (.inl [⟨2, [120], 0, 1, 1⟩, ⟨5, [61], 0, 1, 2⟩, ⟨5, [45], 0, 1, 3⟩, ⟨1, [49], 1, 1, 4⟩, ⟨0, [], 0, 1, 5⟩]) W) := by
    rw [← lx_awake]; exact hO
  have HO := Lib.hid hO2
  clear hO hO2
  go_enter Try.func7, Try.ntmps7
  go_wp2_with (go_at_call 11; refine HO.out.mono ?_; rintro e w1 ⟨v, rfl, hown, hb⟩; obtain ⟨g, cap, rfl, hg, hc1, hc2, hcell⟩ := row_cells hown; have q1 := hcell 15 _ rfl; have q2 := hcell 17 _ rfl; have q3 := hcell 20 _ rfl; have q4 := hcell 23 _ rfl; have q5 := hcell 24 _ rfl; clear hcell hown hg)
  go_ret
  exact ⟨rfl, hb⟩

/-- The keys, in memory of their own. -/
def KeysOut (W : World) (e : Ending) (w' : World) : Prop :=
  e = .returned (.slice (some ⟨W.heap.size, 0, none⟩) 32 32) ∧ (∀ (i : Nat) (z : List UInt8), Lx.keys[i]? = some z → w'.cell? ⟨W.heap.size, i, none⟩ = some (.string ⟨z.toArray⟩)) ∧ Below W.heap.size W w'

set_option maxRecDepth 100000 in
set_option maxHeartbeats 2000000 in
theorem keys_any (W : World) : Calls Try.prog 6 #[] W (KeysOut W) := by
  go_enter Try.func6, Try.ntmps6
  go_wp2
  go_ret
  refine ⟨rfl, fun i z hz => ?_, (Below.refl _ _).alloc (Nat.le_refl _) _⟩
  rw [World.cell?_alloc_at _ _ _ _ rfl]
  change ((Lx.keys.map fun z => Value.string ⟨z.toArray⟩).toArray)[i]? = _
  simp [hz]

theorem contains_snoc (l : List (List UInt8)) (k : Nat) (h : k < l.length) (x : List UInt8) (h1 : (l.take k).contains x = false) (h2 : (l[k] == x) = false) : (l.take (k + 1)).contains x = false := by
  rw [List.take_succ_eq_append_getElem h]
  have h2' : ¬ l[k] = x := by simpa using h2
  simp only [List.contains_eq_mem, List.mem_append, decide_eq_false_iff_not] at h1 ⊢
  rintro (g | g)
  · exact h1 g
  · simp at g; exact h2' g.symm

set_option maxRecDepth 100000 in
set_option maxHeartbeats 2000000 in
theorem rIsKey_any (s : ByteArray) (W : World) : Calls Try.prog 9 #[.string s] W fun e w' => e = .returned (.bool (Lx.isKey s.data.toList)) ∧ Below W.heap.size W w' := by
  go_enter Try.func9, Try.ntmps9
  go_wp2_with (go_at_call 6; refine (keys_any _).mono ?_; rintro e w1 ⟨rfl, hk, hb⟩; have HK := Lib.hid hk; clear hk)
  go_loop [4] (fun i => ∃ k : Nat, k ≤ 32 ∧ i = .int .i64 k ∧ (Lx.keys.take k).contains s.data.toList = false) (fun i => 32 - (intOf i).toNat)
  case atStart => exact ⟨0, Nat.zero_le _, rfl, rfl⟩
  case round =>
    obtain ⟨k, hk, rfl, hc⟩ := hrel
    have HC := Lib.hid hc
    clear hc
    by_cases hlt : k < 32
    · have hlen : k < Lx.keys.length := hlt
      obtain ⟨z, hz⟩ : ∃ z, Lx.keys[k] = z := ⟨_, rfl⟩
      have hcell := HK.out k z (by rw [List.getElem?_eq_getElem hlen, hz])
      obtain ⟨b, hbz⟩ : ∃ b, (z == s.data.toList) = b := ⟨_, rfl⟩
      have ht : (z == s.toList) = b := by rw [toList_data]; exact hbz
      have HZ := Lib.hid hz
      have HB := Lib.hid hbz
      clear hz hbz
      cases b with
      | true =>
        go_wp2
        go_ret
        refine ⟨ret_bool ?_, hb⟩
        have e := HB.out
        rw [← HZ.out] at e
        have e2 : s.data.toList = Lx.keys[k] := (by simpa using e : Lx.keys[k] = s.data.toList).symm
        unfold Lx.isKey
        rw [e2]
        simp
      | false =>
        go_wp2
        go_round
        case rel => exact ⟨k + 1, by omega, by go_num, contains_snoc _ _ hlen _ HC.out (by rw [HZ.out]; exact HB.out)⟩
        case measure => simp [intOf]; omega
    · go_wp2
      go_ret
      refine ⟨ret_bool ?_, hb⟩
      obtain rfl : k = 32 := by omega
      exact HC.out.symm
end Go.Proofs.Ytkamkfakokhocaa
