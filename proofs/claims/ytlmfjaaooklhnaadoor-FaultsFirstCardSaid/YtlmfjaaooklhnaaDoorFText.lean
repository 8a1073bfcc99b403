/- The text of an error, as the document's example has it. -/
import Derived.Test.YtlmfjaaooklhnaaDoorFErr
import Derived.Test.YtlmfjaaooklhnaaDoorFEachT
import Derived.Test.YtlmfjaaooklhnaaDoorStrB
import Derived.Test.YtlmfjaaooklhnaaDoorShelf
import Derived.LaidEqlPtr
import Derived.Lib.Strings
import Derived.WalkSmall
namespace Go.Proofs.YtlmfjaaooklhnaaDoor
open Go.ChangeShapes Go.WideShapes Go.ChangeAt Go.RowKit Go.Extern.Stop Go.Stop Go.Extern
namespace Fk
set_option linter.unusedVariables false
set_option linter.unusedSimpArgs false

theorem ret_str {a b : ByteArray} (h : a = b) : Ending.returned (.string a) = .returned (.string b) := by rw [h]

theorem typed_text (w : World) : Calls Tryd.prog 65 #[.int .i64 7] w fun e w' => e = .returned (.string ⟨#[116, 121, 112, 101, 100]⟩) ∧ Below w.heap.size w w' := by
  go_enter Tryd.func65, Tryd.ntmps65
  go_wp2
  go_ret
  exact ⟨rfl, (Below.refl _ _).alloc (Nat.le_refl _) _⟩

theorem head_named (b : Nat) (nm : ByteArray) (w : World) (h1 : w.cell? ⟨b, 3, none⟩ = some (.bool true)) (h2 : w.cell? ⟨b, 2, none⟩ = some (.string nm)) (hs : nm.size ≤ 1000000) :
    Calls Tryd.prog 68 #[.pointer (some ⟨b, 0, none⟩)] w fun e w' => e = .returned (.string ((⟨#[105, 110, 32]⟩ : ByteArray) ++ nm)) ∧ w = w' := by
  have h3 : (⟨#[105, 110, 32]⟩ : ByteArray).size = 3 := rfl
  go_enter Tryd.func68, Tryd.ntmps68
  go_wp2
  go_ret
  exact ⟨rfl, rfl⟩

set_option maxRecDepth 100000 in
theorem head_37 (b : Nat) (w : World) (h1 : w.cell? ⟨b, 3, none⟩ = some (.bool false)) (h0 : w.cell? ⟨b, 0, none⟩ = some (.int .i64 3)) (h2 : w.cell? ⟨b, 1, none⟩ = some (.int .i64 7)) :
    Calls Tryd.prog 68 #[.pointer (some ⟨b, 0, none⟩)] w fun e w' => e = .returned (.string ⟨#[51, 58, 55]⟩) ∧ Below w.heap.size w w' := by
  have e3 : Lib.decDigits 3 = [51] := by kernel_rfl
  have e7 : Lib.decDigits 7 = [55] := by kernel_rfl
  have i3 := fun w => Tryd.strconv_Itoa_small 3 (by decide) w
  have i7 := fun w => Tryd.strconv_Itoa_small 7 (by decide) w
  rw [e3] at i3
  rw [e7] at i7
  have H3 := Lib.hid i3
  have H7 := Lib.hid i7
  clear i3 i7 e3 e7
  go_enter Tryd.func68, Tryd.ntmps68
  go_wp2
  go_quiet ((first | (go_at_call_of 73 (3 : Int); exact Calls.quiet_of_same (H3.out _)) | (go_at_call_of 73 (7 : Int); exact Calls.quiet_of_same (H7.out _))))
  go_wp2
  go_ret
  exact ⟨ret_str rfl, below_drewN (Below.refl _ _) _⟩

/-- An At with all its cells, in a block of its own. -/
def AtObj (w : World) (b : Nat) (line col : Int) (nm : ByteArray) (named : Bool) (u : Value) : Prop := w.heap[b]? = some (.cells #[.int .i64 line, .int .i64 col, .string nm, .bool named, u] 41 (0, 0))
theorem AtObj.cell {w : World} {b : Nat} {line col : Int} {nm : ByteArray} {named : Bool} {u : Value} (h : AtObj w b line col nm named u) (j : Nat) : w.cell? ⟨b, j, none⟩ = (#[Value.int .i64 line, .int .i64 col, .string nm, .bool named, u])[j]? := Lib.cell_of_heap h j
theorem AtObj.lt {w : World} {b : Nat} {line col : Int} {nm : ByteArray} {named : Bool} {u : Value} (h : AtObj w b line col nm named u) : b < w.heap.size := (Array.getElem?_eq_some_iff.1 h).1
theorem AtObj.below {w w' : World} {b B : Nat} {line col : Int} {nm : ByteArray} {named : Bool} {u : Value} (h : AtObj w b line col nm named u) (hb : Below B w w') (hlt : b < B) : AtObj w' b line col nm named u := (hb.block b hlt).trans h

set_option maxHeartbeats 1000000 in
theorem new_obj (k line col : Int) (hk : (k == 0) = false) (w : World) :
    Calls Tryd.prog 6 #[.int .i64 k, .agg #[.int .i64 line, .int .i64 col]] w fun e w' => e = .returned (.iface 39 (.pointer (some ⟨w.heap.size + 1, 0, none⟩))) ∧ AtObj w' (w.heap.size + 1) line col ⟨#[]⟩ false (.iface 26 (.int .i64 k)) ∧ Below w.heap.size w w' := by
  go_enter Tryd.func6, Tryd.ntmps6
  go_wp2
  go_ret
  refine ⟨rfl, ?_, ((Below.refl _ _).alloc (Nat.le_refl _) _).alloc (by simp) _⟩
  unfold AtObj
  have e : (w.alloc (.cells #[.int .i64 line, .int .i64 col] 32)).heap.size = w.heap.size + 1 := by simp
  rw [← e]
  exact heap_alloc_new _ _
set_option maxHeartbeats 1000000 in
theorem in_obj (t : TypeId) (u : Value) (nm : ByteArray) (w : World) :
    Calls Tryd.prog 10 #[.iface t u, .string nm] w fun e w' => e = .returned (.iface 39 (.pointer (some ⟨w.heap.size, 0, none⟩))) ∧ AtObj w' w.heap.size 0 0 nm true (.iface t u) ∧ Below w.heap.size w w' := by
  go_enter Tryd.func10, Tryd.ntmps10
  go_wp2
  go_ret
  exact ⟨rfl, heap_alloc_new _ _, (Below.refl _ _).alloc (Nat.le_refl _) _⟩

set_option maxRecDepth 100000 in
set_option maxHeartbeats 1000000 in
theorem last_two {w : World} {bo bi : Nat} {l c l' c' : Int} {nm nm' : ByteArray} {d d' : Bool} {k : Value} (ho : AtObj w bo l c nm d (.iface 39 (.pointer (some ⟨bi, 0, none⟩)))) (hi : AtObj w bi l' c' nm' d' (.iface 26 k)) (hne : bi ≠ bo) :
    Calls Tryd.prog 69 #[.pointer (some ⟨bo, 0, none⟩)] w fun e w' => e = .returned (.pointer (some ⟨bi, 0, none⟩)) ∧ w = w' := by
  have co := ho.cell 4
  have ci := hi.cell 4
  simp at co ci
  obtain ⟨j, hj, hjs⟩ := Option.map_eq_some_iff.1 (show (Tryd.prog.info? 41).map (·.size) = some 5 by kernel_rfl)
  have hd : (⟨bi, 0, none⟩ : Addr) ≠ ⟨bo, 0, none⟩ := fun e => hne (by injection e)
  have heq := run_eql_ptr_other (P := Tryd.prog) (w := w) Tryd.underlying39 hj (by rw [hjs]; decide) hd hi ho
  clear ho hi hd
  go_enter Tryd.func69, Tryd.ntmps69
  have hbit : (bits BinOp.and IntKind.i64 1 0 == 0) = true := by kernel_rfl
  go_wp2
  refine wp_loop_rounds 2 ?_
  rw [rounds_succ]
  go_wp2_with (first
    | (go_at_call_of 33 (some (⟨bi, 0, none⟩ : Addr)); refine (itself_at _ _).mono ?_; rintro e w' ⟨rfl, rfl⟩)
    | (go_at_call 33; refine (itself_kind _ _).mono ?_; rintro e w' ⟨rfl, rfl⟩))
  rw [rounds_succ]
  go_wp2_with (first
    | (go_at_call_of 33 (some (⟨bi, 0, none⟩ : Addr)); refine (itself_at _ _).mono ?_; rintro e w' ⟨rfl, rfl⟩)
    | (go_at_call 33; refine (itself_kind _ _).mono ?_; rintro e w' ⟨rfl, rfl⟩))
  go_ret
  exact ⟨rfl, rfl⟩
end Fk
end Go.Proofs.YtlmfjaaooklhnaaDoor
