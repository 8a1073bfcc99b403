/- The lowest kind that an error is. -/
import Derived.Test.YtjiekjfbllinbaaDoorFIs
namespace Go.Proofs.YtjiekjfbllinbaaDoor
open Go.ChangeShapes Go.WideShapes Go.ChangeAt Go.RowKit Go.Extern.Stop Go.Stop Go.Extern
namespace Fk
set_option linter.unusedVariables false

/-- The kind that is told of a kind: itself, if it is one that can be wrong; else a fault. -/
def told (k : Int) : Int := if 1 ≤ k ∧ k < 12 then k else 12

theorem asAK (p : Value) (w : World) : (Instr.typeAssert (.iface 94 p) 37 62 true).run Tryd.prog w = .ok (.tuple #[.int .i64 0, .bool false]) w := by kernel_rfl
theorem asKK (v : Value) (w : World) : (Instr.typeAssert (.iface 62 v) 37 62 true).run Tryd.prog w = .ok (.tuple #[v, .bool true]) w := by kernel_rfl
theorem asAA (p : Value) (w : World) : (Instr.typeAssert (.iface 94 p) 37 94 true).run Tryd.prog w = .ok (.tuple #[p, .bool true]) w := by kernel_rfl
theorem asKA (v : Value) (w : World) : (Instr.typeAssert (.iface 62 v) 37 94 true).run Tryd.prog w = .ok (.tuple #[.pointer none, .bool false]) w := by kernel_rfl

set_option maxRecDepth 100000 in
set_option maxHeartbeats 1000000 in
theorem lower_at (p : Value) (w : World) :
    Calls Tryd.prog 31 #[.iface 94 p, .int .i64 12] w fun e w' => e = .returned (.int .i64 12) ∧ w = w' := by
  have nA := noIsA
  have cA := asAK
  go_enter Tryd.func31, Tryd.ntmps31
  go_wp2
  go_ret
  exact ⟨rfl, rfl⟩

set_option maxRecDepth 100000 in
set_option maxHeartbeats 1000000 in
theorem lower_kind (k : Int) (w : World) :
    Calls Tryd.prog 31 #[.iface 62 (.int .i64 k), .int .i64 12] w fun e w' => e = .returned (.int .i64 (told k)) ∧ Below w.heap.size w w' := by
  have nK := noIsK
  have cK := asKK
  go_enter Tryd.func31, Tryd.ntmps31
  go_wp2
  go_loopw [5] (fun v wr => ∃ j : Nat, 1 ≤ j ∧ j ≤ 12 ∧ v = .int .i64 j ∧ (∀ i : Nat, 1 ≤ i → i < j → (i : Int) ≠ k) ∧ Below w.heap.size w wr) (fun v _ => 12 - (intOf v).toNat)
  case atStart => exact ⟨1, by omega, by omega, rfl, fun i h1 h2 => by omega, Below.refl _ _⟩
  case round =>
    obtain ⟨j, j1, j2, rfl, hn, hbl⟩ := hrel
    have HN := Lib.hid hn
    clear hn
    by_cases hlt : j < 12
    · obtain ⟨b, hb⟩ : ∃ b, (k == (j : Int)) = b := ⟨_, rfl⟩
      have HB := Lib.hid hb
      clear hb
      cases b with
      | true =>
        go_wp2_with (go_at_call 48; refine (Is_alone k j _).mono ?_; rintro e w1 ⟨rfl, hw⟩; rw [HB.out])
        go_ret
        have e : k = j := by simpa using HB.out
        refine ⟨ret_int ?_, hbl.trans (hw.mono hbl.size)⟩
        unfold told
        rw [if_pos (by omega)]
        exact e.symm
      | false =>
        go_wp2_with (go_at_call 48; refine (Is_alone k j _).mono ?_; rintro e w1 ⟨rfl, hw⟩; rw [HB.out])
        go_roundw
        case rel =>
          have e : k ≠ j := by simpa using HB.out
          exact ⟨j + 1, by omega, by omega, by go_num, fun i h1 h2 => by
            by_cases hij : i = j
            · subst hij; exact fun h => e h.symm
            · exact HN.out i h1 (by omega), hbl.trans (hw.mono hbl.size)⟩
        case measure => simp [intOf]; omega
    · go_wp2
      go_ret
      refine ⟨ret_int ?_, hbl⟩
      unfold told
      rw [if_neg]
      rintro ⟨h1, h2⟩
      exact HN.out k.toNat (by omega) (by omega) (by omega)
end Fk
end Go.Proofs.YtjiekjfbllinbaaDoor
