/- The document's example of faults. -/
import Derived.Test.YtlmfjaaooklhnaaDoorFReach
namespace Go.Proofs.YtlmfjaaooklhnaaDoor
open Go.ChangeShapes Go.WideShapes Go.ChangeAt Go.RowKit Go.Extern.Stop Go.Stop Go.Extern
namespace Fk
set_option linter.unusedVariables false
set_option linter.unusedSimpArgs false

/-- "in f: 3:7: typed" -/
def exText : List UInt8 := [105, 110, 32, 102, 58, 32, 51, 58, 55, 58, 32, 116, 121, 112, 101, 100]

theorem enterText (args : Array Value) (w : World) : (callFunc 23 args).run Tryd.prog w = .ok (.enter 23 args) w := by kernel_rfl
theorem methodErrK (v : Value) (w : World) : (Go.method 253 26 v "Error").run Tryd.prog w = .ok (65, v) w := by kernel_rfl
theorem methodErrA (v : Value) (w : World) : (Go.method 253 39 v "Error").run Tryd.prog w = .ok (66, v) w := by kernel_rfl

set_option maxRecDepth 100000 in
set_option maxHeartbeats 1000000 in
theorem text1_kind {w : World} {c1 c2 : Nat} {s : Value} (h1 : w.cell? ⟨c1, 0, none⟩ = some (.iface 26 (.int .i64 7))) (h2 : w.cell? ⟨c2, 0, none⟩ = some s) (f2 : w.frozen? ⟨c2, 0, none⟩ = false) :
    Calls Tryd.prog 23 #[.pointer (some ⟨c1, 0, none⟩), .pointer (some ⟨c2, 0, none⟩)] w fun e w' => e = .returned (.tuple #[]) ∧ (w'.cell? ⟨c2, 0, none⟩ = some (.string ⟨#[116, 121, 112, 101, 100]⟩) ∧ w'.frozen? ⟨c2, 0, none⟩ = false ∧ Keeps (fun k => k = c2) w w') := by
  have mK := methodErrK
  have l2 := World.block_lt_of_cell? w _ h2
  simp only at l2
  go_enter Tryd.func23, Tryd.ntmps23
  go_wp2_with (go_at_call 65; refine (typed_text _).mono ?_; rintro e w1 ⟨rfl, hb⟩; have hk := Keeps.below (S := fun _ => False) hb; have g2 := hk.cell h2 id; have g3 := (World.frozen?_of_block (hb.block c2 l2)).trans f2)
  go_end0
  exact ⟨rfl, by simp [go_sem, g2, g3], by simp [go_sem, g3], Keeps.setCell (S := fun k => k = c2) (p := ⟨c2, 0, none⟩) (hk.mono fun _ _ h => h.elim) rfl _⟩

set_option maxRecDepth 100000 in
set_option maxHeartbeats 1000000 in
theorem text_kind (w : World) : Calls Tryd.prog 11 #[.iface 26 (.int .i64 7)] w fun e w' => e = .returned (.string ⟨#[116, 121, 112, 101, 100]⟩) ∧ Below w.heap.size w w' := by
  have hmf : ∀ (fn : Fn) (first cap : Array Value) (w : World), (Instr.makeFunc fn first cap).run Tryd.prog w = .ok (.func fn first cap) w := fun _ _ _ _ => rfl
  go_enter Tryd.func11, Tryd.ntmps11
  go_wp2_with (go_at_call 22; refine (safely_any _ enterText _ _ (fun w' => w'.cell? ⟨w.heap.size + 1, 0, none⟩ = some (.string ⟨#[116, 121, 112, 101, 100]⟩) ∧ w'.frozen? ⟨w.heap.size + 1, 0, none⟩ = false ∧ Below w.heap.size w w') ((text1_kind (w := (w.alloc (.cells #[.iface 26 (.int .i64 7)] 29)).alloc (.cells #[.string ⟨#[]⟩] 9)) (c1 := w.heap.size) (c2 := w.heap.size + 1) (s := .string ⟨#[]⟩) (by simp [go_sem]) (by simp [go_sem]) (by simp [go_sem])).mono ?_)).mono ?_; rotate_left; rintro e w1 ⟨rfl, q0, q1, hb⟩)
  · refine bodyPost_ret (v := .string ⟨#[116, 121, 112, 101, 100]⟩) (by simp [results, Tryd.results11, go_sem, q0, q1]) rfl ⟨rfl, ?_⟩
    exact hb.setCell (by simp) _
  · rintro e w1 ⟨rfl, q0, q1, hk⟩
    exact ⟨rfl, q0, q1, (((Below.refl _ _).alloc (Nat.le_refl _) _).alloc (by simp) _).trans (hk.toBelow (by simp; omega) (fun k h1 h2 => by omega))⟩

set_option maxRecDepth 100000 in
set_option maxHeartbeats 400000 in
theorem error_two {w : World} {bo bi : Nat} (ho : AtObj w bo 0 0 ⟨#[102]⟩ true (.iface 39 (.pointer (some ⟨bi, 0, none⟩)))) (hi : AtObj w bi 3 7 ⟨#[]⟩ false (.iface 26 (.int .i64 7))) (hne : bi ≠ bo) :
    Calls Tryd.prog 66 #[.pointer (some ⟨bo, 0, none⟩)] w fun e w' => e = .returned (.string ⟨exText.toArray⟩) ∧ Below w.heap.size w w' := by
  have hs1 : (⟨#[105, 110, 32]⟩ : ByteArray) ++ ⟨#[102]⟩ = ⟨#[105, 110, 32, 102]⟩ := by kernel_rfl
  have HS1 := Lib.hid hs1
  clear hs1
  have HO := Lib.hid ho
  have HI := Lib.hid hi
  have co3 := ho.cell 3
  have co2 := ho.cell 2
  have co4 := ho.cell 4
  have ci0 := hi.cell 0
  have ci1 := hi.cell 1
  have ci3 := hi.cell 3
  have ci4 := hi.cell 4
  simp at co2 co3 co4 ci0 ci1 ci3 ci4
  have lo := ho.lt
  have li := hi.lt
  clear ho hi
  go_enter Tryd.func66, Tryd.ntmps66
  go_wp2_with (first
    | (go_at_call 68; refine (head_named bo ⟨#[102]⟩ _ co3 co2 (by decide)).mono ?_; rintro e w' ⟨rfl, rfl⟩; rw [HS1.out])
    | (go_at_call 69; refine (last_two HO.out HI.out hne).mono ?_; rintro e w' ⟨rfl, rfl⟩)
    | (go_at_call 70; refine (reaches_kind _ _ _).mono ?_; rintro e w1 ⟨rfl, hb1⟩))
  have hz1 := hb1.size
  have hB0 := Lib.fresh_isBuilder 119 5 w1
  refine (Sb.write_any w1.heap.size w1.heap.size [] ⟨#[105, 110, 32, 102]⟩ _ hB0 (of_decide_eq_true (by kernel_rfl)) (by simp)).mono ?_
  rintro e w2 ⟨rfl, hB2, hb2⟩
  have b2 : Below w.heap.size w w2 := hb1.trans (((Below.refl _ _).alloc hz1 _).trans (hb2.mono hz1))
  have o2 := (HO.out.below b2 lo).cell 4
  simp at o2
  have HB2 := Lib.hid hB2
  clear hB2 hB0
  go_wp2
  refine wp_loop_rounds 2 ?_
  rw [rounds_succ]
  go_wp2_with fail
  refine (Sb.write_any w1.heap.size w1.heap.size _ ⟨#[58, 32]⟩ _ HB2.out (of_decide_eq_true (by kernel_rfl)) (by have := hb2.size; simp at this; omega)).mono ?_
  rintro e w3 ⟨rfl, hB3, hb3⟩
  have b3 : Below w.heap.size w w3 := b2.trans (hb3.mono hz1)
  have o3 := (HO.out.below b3 lo).cell 4
  have HI3 := Lib.hid (HI.out.below b3 li)
  have i30 := HI3.out.cell 0
  have i31 := HI3.out.cell 1
  have i33 := HI3.out.cell 3
  simp at o3 i30 i31 i33
  have HB3 := Lib.hid hB3
  clear hB3
  go_wp2_with fail
  refine (itself_at _ _).mono ?_
  rintro e w' ⟨rfl, rfl⟩
  go_wp2_with fail
  refine (head_37 bi _ i33 i30 i31).mono ?_
  rintro e w4 ⟨rfl, hb4⟩
  have HB4 := Lib.hid (Sb.keep HB3.out hb4.block)
  have b4 : Below w.heap.size w w4 := b3.trans (hb4.mono b3.size)
  go_wp2_with fail
  refine (Sb.write_any w1.heap.size w1.heap.size _ ⟨#[51, 58, 55]⟩ _ HB4.out (of_decide_eq_true (by kernel_rfl)) (by have := hb2.size; have := hb3.size; have := hb4.size; simp at *; omega)).mono ?_
  rintro e w5 ⟨rfl, hB5, hb5⟩
  have b5 : Below w.heap.size w w5 := b4.trans (hb5.mono hz1)
  have i54 := (HI.out.below b5 li).cell 4
  simp at i54
  have HB5 := Lib.hid hB5
  clear hB5
  go_wp2_with fail
  rw [rounds_succ]
  go_wp2_with fail
  have z5 : w1.heap.size ≤ w5.heap.size := by have := hb2.size; have := hb3.size; have := hb4.size; have := hb5.size; simp at *; omega
  refine (Sb.write_any w1.heap.size w1.heap.size _ ⟨#[58, 32]⟩ _ HB5.out (of_decide_eq_true (by kernel_rfl)) z5).mono ?_
  rintro e w6 ⟨rfl, hB6, hb6⟩
  have b6 : Below w.heap.size w w6 := b5.trans (hb6.mono hz1)
  have i64 := (HI.out.below b6 li).cell 4
  simp at i64
  have HB6 := Lib.hid hB6
  clear hB6
  go_wp2_with fail
  refine (itself_kind _ _).mono ?_
  rintro e w' ⟨rfl, rfl⟩
  go_wp2_with fail
  refine (text_kind _).mono ?_
  rintro e w7 ⟨rfl, hb7⟩
  have HB7 := Lib.hid (Sb.keep HB6.out hb7.block)
  have b7 : Below w.heap.size w w7 := b6.trans (hb7.mono b6.size)
  go_wp2_with fail
  refine (Sb.write_any w1.heap.size w1.heap.size _ ⟨#[116, 121, 112, 101, 100]⟩ _ HB7.out (of_decide_eq_true (by kernel_rfl)) (Nat.le_trans z5 (Nat.le_trans hb6.size hb7.size))).mono ?_
  rintro e w8 ⟨rfl, hB8, hb8⟩
  have b8 : Below w.heap.size w w8 := b7.trans (hb8.mono hz1)
  have HB8 := Lib.hid (show Lib.IsBuilder 119 5 w1.heap.size w1.heap.size (Lib.byteCells exText) w8 from hB8)
  clear hB8
  go_wp2_with fail
  refine (Tryd.Builder_String w1.heap.size w1.heap.size exText _ HB8.out (by decide)).mono ?_
  rintro e w9 ⟨rfl, hb9⟩
  go_wp2
  go_ret
  exact ⟨rfl, b8.trans (hb9.mono hz1)⟩

set_option maxRecDepth 100000 in
set_option maxHeartbeats 1000000 in
theorem text1_two {w : World} {c1 c2 bo bi : Nat} {s : Value} (ho : AtObj w bo 0 0 ⟨#[102]⟩ true (.iface 39 (.pointer (some ⟨bi, 0, none⟩)))) (hi : AtObj w bi 3 7 ⟨#[]⟩ false (.iface 26 (.int .i64 7))) (hne : bi ≠ bo)
    (h1 : w.cell? ⟨c1, 0, none⟩ = some (.iface 39 (.pointer (some ⟨bo, 0, none⟩)))) (h2 : w.cell? ⟨c2, 0, none⟩ = some s) (f2 : w.frozen? ⟨c2, 0, none⟩ = false) :
    Calls Tryd.prog 23 #[.pointer (some ⟨c1, 0, none⟩), .pointer (some ⟨c2, 0, none⟩)] w fun e w' => e = .returned (.tuple #[]) ∧ (w'.cell? ⟨c2, 0, none⟩ = some (.string ⟨exText.toArray⟩) ∧ w'.frozen? ⟨c2, 0, none⟩ = false ∧ Keeps (fun k => k = c2) w w') := by
  have mA := methodErrA
  have l2 := World.block_lt_of_cell? w _ h2
  simp only at l2
  have HO := Lib.hid ho
  have HI := Lib.hid hi
  clear ho hi
  go_enter Tryd.func23, Tryd.ntmps23
  go_wp2_with (go_at_call 66; refine (error_two HO.out HI.out hne).mono ?_; rintro e w1 ⟨rfl, hb⟩; have hk := Keeps.below (S := fun _ => False) hb; have g2 := hk.cell h2 id; have g3 := (World.frozen?_of_block (hb.block c2 l2)).trans f2)
  go_end0
  exact ⟨rfl, by simp [go_sem, g2, g3], by simp [go_sem, g3], Keeps.setCell (S := fun k => k = c2) (p := ⟨c2, 0, none⟩) (hk.mono fun _ _ h => h.elim) rfl _⟩

set_option maxRecDepth 100000 in
set_option maxHeartbeats 1000000 in
theorem text_two {w : World} {bo bi : Nat} (ho : AtObj w bo 0 0 ⟨#[102]⟩ true (.iface 39 (.pointer (some ⟨bi, 0, none⟩)))) (hi : AtObj w bi 3 7 ⟨#[]⟩ false (.iface 26 (.int .i64 7))) (hne : bi ≠ bo) :
    Calls Tryd.prog 11 #[.iface 39 (.pointer (some ⟨bo, 0, none⟩))] w fun e w' => e = .returned (.string ⟨exText.toArray⟩) ∧ Below w.heap.size w w' := by
  have hmf : ∀ (fn : Fn) (first cap : Array Value) (w : World), (Instr.makeFunc fn first cap).run Tryd.prog w = .ok (.func fn first cap) w := fun _ _ _ _ => rfl
  have hb0 : Below w.heap.size w ((w.alloc (.cells #[.iface 39 (.pointer (some ⟨bo, 0, none⟩))] 29)).alloc (.cells #[.string ⟨#[]⟩] 9)) := ((Below.refl _ _).alloc (Nat.le_refl _) _).alloc (by simp) _
  have HO := Lib.hid (ho.below hb0 ho.lt)
  have HI := Lib.hid (hi.below hb0 hi.lt)
  clear ho hi hb0
  go_enter Tryd.func11, Tryd.ntmps11
  go_wp2_with (go_at_call 22; refine (safely_any _ enterText _ _ (fun w' => w'.cell? ⟨w.heap.size + 1, 0, none⟩ = some (.string ⟨exText.toArray⟩) ∧ w'.frozen? ⟨w.heap.size + 1, 0, none⟩ = false ∧ Below w.heap.size w w') ((text1_two HO.out HI.out hne (c1 := w.heap.size) (c2 := w.heap.size + 1) (s := .string ⟨#[]⟩) (by simp [go_sem]) (by simp [go_sem]) (by simp [go_sem])).mono ?_)).mono ?_; rotate_left; rintro e w1 ⟨rfl, q0, q1, hb⟩)
  · refine bodyPost_ret (v := .string ⟨exText.toArray⟩) (by simp [results, Tryd.results11, go_sem, q0, q1]) rfl ⟨rfl, ?_⟩
    exact hb.setCell (by simp) _
  · rintro e w1 ⟨rfl, q0, q1, hk⟩
    exact ⟨rfl, q0, q1, (((Below.refl _ _).alloc (Nat.le_refl _) _).alloc (by simp) _).trans (hk.toBelow (by simp; omega) (fun k h1 h2 => by omega))⟩
end Fk
end Go.Proofs.YtlmfjaaooklhnaaDoor
