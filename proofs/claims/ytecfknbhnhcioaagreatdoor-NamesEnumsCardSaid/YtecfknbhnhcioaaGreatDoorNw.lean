/- Names that are there, and the reference's first fault. -/
import Derived.Test.YtecfknbhnhcioaaGreatDoorNv
import Derived.BigQuiet
import Derived.Laws.Strings
import Derived.Deep.QuietTactic
namespace Go.Proofs.YtecfknbhnhcioaaGreatDoor
open Go.ChangeShapes Go.WideShapes Go.ChangeAt Go.RowKit Go.Maps
namespace Tx
set_option linter.unusedVariables false
set_option linter.unusedSimpArgs false
theorem hasN_drop {ns : List ByteArray} {i : Nat} {x : ByteArray} (h : ns[i]? = some x) (s : ByteArray) : hasN (ns.drop i) s = (decide (x = s) || hasN (ns.drop (i + 1)) s) := by
  obtain ⟨hi, rfl⟩ := List.getElem?_eq_some_iff.1 h
  rw [List.drop_eq_getElem_cons hi]
  rfl
theorem hasN_end {ns : List ByteArray} {i : Nat} (h : ns.length ≤ i) (s : ByteArray) : hasN (ns.drop i) s = false := by
  rw [List.drop_eq_nil_of_le h]
  rfl
theorem eq_toList (x s : ByteArray) : (x.toList == s.toList) = decide (x = s) := by
  by_cases h : x = s
  · subst h; simp
  · rw [decide_eq_false h, beq_eq_false_iff_ne]
    intro e
    apply h
    rw [ByteArray.toList_eq, ByteArray.toList_eq] at e
    have h2 := Array.toList_inj.1 e
    cases x; cases s
    simp_all
set_option maxHeartbeats 2000000 in
theorem rhas_any (B : Nat → Prop) (s : ByteArray) (w : World) (v : Value) (ns : List ByteArray) (h : NamesIn B w v ns) : Calls Tryz.prog 18 #[v, .string s] w fun e w' => e = .returned (.bool (hasN ns s)) ∧ w' = w := by
  obtain ⟨ao, c, rfl⟩ := h.form
  have H := Lib.hid h
  obtain ⟨N, hN⟩ : ∃ N, ns.length = N := ⟨_, rfl⟩
  have HN := Lib.hid hN
  have hle : N ≤ maxLen := by have := h.le; omega
  unfold maxLen at hle
  rw [hN]
  clear h hN
  go_enter Tryz.func18, Tryz.ntmps18
  go_wp2
  go_loopg [5] N (fun g iv wr => ∃ i : Nat, i + g = N ∧ iv = .int .i64 i ∧ w = wr ∧ hasN (ns.drop i) s = hasN ns s)
  case atStart => exact ⟨0, by omega, rfl, rfl, rfl⟩
  case round =>
    obtain ⟨i, hi, rfl, rfl, hs⟩ := hrel
    have HS := Lib.hid hs
    clear hs
    by_cases hlt : i < N
    · obtain ⟨b, o, x, rfl, hx, _, _, hc⟩ := H.out.one (i := i) (by have := HN.out; omega)
      have HX := Lib.hid (hasN_drop hx s)
      clear hx
      cases hp : decide (x = s)
      · have ht : (x.toList == s.toList) = false := by rw [eq_toList]; exact hp
        go_wp2
        go_roundg (N - (i + 1))
        case measure => omega
        case rel => exact ⟨i + 1, by omega, by go_num, rfl, by have h := HX.out; rw [HS.out, hp, Bool.false_or] at h; exact h.symm⟩
      · have ht : (x.toList == s.toList) = true := by rw [eq_toList]; exact hp
        have hr : hasN ns s = true := by have h := HX.out; rw [HS.out, hp, Bool.true_or] at h; exact h
        have HRR := Lib.hid hr
        clear hr
        go_wp2
        go_ret
        exact ⟨by rw [HRR.out]; rfl, rfl⟩
    · have hr : hasN ns s = false := by rw [← HS.out, hasN_end (by have := HN.out; omega)]
      have HRR := Lib.hid hr
      clear hr
      go_wp2
      go_ret
      exact ⟨by rw [HRR.out]; rfl, rfl⟩
/-- The reference's look: what it has found. -/
structure LookAt (lb : Nat) (k line col : Int) (w : World) : Prop where
  c2 : w.cell? ⟨lb, 2, none⟩ = some (.int .i64 k)
  c3 : w.cell? ⟨lb, 3, none⟩ = some (.int .i64 line)
  c4 : w.cell? ⟨lb, 4, none⟩ = some (.int .i64 col)
  f2 : w.frozen? ⟨lb, 2, none⟩ = false
  f3 : w.frozen? ⟨lb, 3, none⟩ = false
  f4 : w.frozen? ⟨lb, 4, none⟩ = false
theorem LookAt.keep {S : Nat → Prop} {lb : Nat} {k line col : Int} {w w' : World} (h : LookAt lb k line col w) (hk : Keeps S w w') (hS : ¬ S lb) : LookAt lb k line col w' :=
  have hlt := World.block_lt_of_cell? w _ h.c2
  ⟨hk.cell h.c2 hS, hk.cell h.c3 hS, hk.cell h.c4 hS, (World.frozen?_of_block (hk.block lb hlt hS)).trans h.f2, (World.frozen?_of_block (hk.block lb hlt hS)).trans h.f3, (World.frozen?_of_block (hk.block lb hlt hS)).trans h.f4⟩
set_option maxHeartbeats 1000000 in
theorem fail_first (lb : Nat) (k l0 c0 line col : Int) (w : World) (h : LookAt lb 0 l0 c0 w) :
    Calls Tryz.prog 28 #[.pointer (some ⟨lb, 0, none⟩), .int .i64 k, .agg #[.int .i64 line, .int .i64 col]] w fun e w' => e = .returned (.tuple #[]) ∧ LookAt lb k line col w' ∧ Keeps (fun k => k = lb) w w' := by
  obtain ⟨x2, x3, x4, y2, y3, y4⟩ := h
  have hX : LookAt lb k line col (((w.setCell ⟨lb, 2, none⟩ (.int .i64 k)).setCell ⟨lb, 3, none⟩ (.int .i64 line)).setCell ⟨lb, 4, none⟩ (.int .i64 col)) := by
    refine ⟨?_, ?_, ?_, ?_, ?_, ?_⟩ <;> simp [go_sem, x2, x3, x4, y2, y3, y4]
  have hK : Keeps (fun k => k = lb) w (((w.setCell ⟨lb, 2, none⟩ (.int .i64 k)).setCell ⟨lb, 3, none⟩ (.int .i64 line)).setCell ⟨lb, 4, none⟩ (.int .i64 col)) := (((Keeps.refl (fun k => k = lb) w).setCell (p := ⟨lb, 2, none⟩) rfl _).setCell (p := ⟨lb, 3, none⟩) rfl _).setCell (p := ⟨lb, 4, none⟩) rfl _
  have HX := Lib.hid hX
  have HK := Lib.hid hK
  clear hX hK
  have hlt : lb < w.heap.size := World.block_lt_of_cell? w ⟨lb, 2, none⟩ x2
  go_enter Tryz.func28, Tryz.ntmps28
  go_wp2
  go_end0
  exact ⟨rfl, HX.out.keep ((Keeps.refl (fun _ => False) _).alloc _) id, HK.out.alloc _⟩
set_option maxHeartbeats 1000000 in
theorem fail_later (lb : Nat) (k0 k l0 c0 line col : Int) (hk : (k0 == 0) = false) (w : World) (h : LookAt lb k0 l0 c0 w) :
    Calls Tryz.prog 28 #[.pointer (some ⟨lb, 0, none⟩), .int .i64 k, .agg #[.int .i64 line, .int .i64 col]] w fun e w' => e = .returned (.tuple #[]) ∧ LookAt lb k0 l0 c0 w' ∧ Keeps (fun k => k = lb) w w' := by
  have H := Lib.hid h
  obtain ⟨x2, x3, x4, y2, y3, y4⟩ := h
  have hlt := World.block_lt_of_cell? w _ x2
  go_enter Tryz.func28, Tryz.ntmps28
  go_wp2
  go_end0
  exact ⟨rfl, H.out.keep ((Keeps.refl (fun _ => False) w).alloc _) id, (Keeps.refl (fun k => k = lb) w).alloc _⟩
end Tx
end Go.Proofs.YtecfknbhnhcioaaGreatDoor
