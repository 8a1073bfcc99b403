/- What Where answers of no error; and what Kind and Where answer of a fault. -/
import Derived.Test.YtecfknbhnhcioaaGreatDoorNza
namespace Go.Proofs.YtecfknbhnhcioaaGreatDoor
open Go.ChangeShapes Go.WideShapes Go.ChangeAt Go.RowKit Go.Extern.Stop Go.Stop Go.Extern
namespace Fk
set_option linter.unusedVariables false
set_option linter.unusedSimpArgs false
set_option maxRecDepth 100000 in
set_option maxHeartbeats 1000000 in
theorem begin_nil (w : World) :
    Calls Tryz.prog 31 #[.nilIface] w fun e w' => e = .returned (.pointer (some ⟨w.heap.size + 1, 0, none⟩)) ∧ Stopped w' (w.heap.size + 1) ∧ Below w.heap.size w w' := by
  have hmm := @run_makeMap Tryz.prog
  go_enter Tryz.func31, Tryz.ntmps31
  go_wp2_with (go_at_call 54; refine (add_nil _ _).mono ?_; rintro e w1 ⟨rfl, rfl⟩)
  go_ret
  exact ⟨rfl, ⟨by simp [go_sem]⟩, ((Below.refl _ _).alloc (Nat.le_refl _) _).alloc (by simp) _⟩
theorem each_stopped {w : World} {b : Nat} (p1 p2 : Value) (hs : Stopped w b) :
    Calls Tryz.prog 32 #[.pointer (some ⟨b, 0, none⟩), .func (Fn.func 36) #[] #[p1, p2]] w fun e w' => e = .returned (.tuple #[]) ∧ Keeps (fun k => k = b) w w' := by
  refine (each_any 36 enterWhere p1 p2 b (fun k => k = b) w (fun n w' => n = 0 ∧ Stopped w' b) (fun w0 _ => ⟨fun n w h => h.1, fun w h => .inl h.2.2, fun n w h => by have := h.2.1; omega⟩) (fun n w0 hk h => ⟨h.1, ⟨hk.cell h.2.c0 id⟩⟩) rfl (fun k hk => by subst hk; exact World.block_lt_of_cell? w _ hs.c0) 0 ⟨rfl, hs⟩).mono ?_
  rintro e w1 ⟨rfl, _, hk⟩
  exact ⟨rfl, hk⟩
theorem size_one (W : World) (o : Obj) : (W.alloc o).heap.size = W.heap.size + 1 := by simp
theorem stopped_alloc {w : World} {b : Nat} {o : Obj} (h : Stopped w b) : Stopped (w.alloc o) b := ⟨((Keeps.refl (fun _ => False) w).alloc o).cell h.c0 id⟩
theorem nil_cells {W w1 w2 : World} {o : Obj} (hb : Below (W.alloc (.cells #[.int .i64 0, .int .i64 0] 30)).heap.size (W.alloc (.cells #[.int .i64 0, .int .i64 0] 30)) w1) (hk : Keeps (fun k => k = W.heap.size + 1 + 1) (w1.alloc o) w2) :
    w2.cell? ⟨W.heap.size, 0, none⟩ = some (.int .i64 0) ∧ w2.cell? ⟨W.heap.size, 1, none⟩ = some (.int .i64 0) ∧ w2.frozen? ⟨W.heap.size, 0, none⟩ = false ∧ w2.frozen? ⟨W.heap.size, 1, none⟩ = false ∧ Below W.heap.size W w2 := by
  have hz := hb.size
  simp at hz
  have hb2 : Below (W.alloc (.cells #[.int .i64 0, .int .i64 0] 30)).heap.size (W.alloc (.cells #[.int .i64 0, .int .i64 0] 30)) w2 := hb.trans (((Below.refl _ _).alloc (by simp; omega) _).trans (hk.toBelow (by simp; omega) (fun k h1 h2 => by simp at h1; omega)))
  refine ⟨(hb2.cell (p := ⟨W.heap.size, 0, none⟩) (by simp)).trans (by simp [go_sem]), (hb2.cell (p := ⟨W.heap.size, 1, none⟩) (by simp)).trans (by simp [go_sem]), (hb2.frozen (p := ⟨W.heap.size, 0, none⟩) (by simp)).trans (by simp [go_sem]), (hb2.frozen (p := ⟨W.heap.size, 1, none⟩) (by simp)).trans (by simp [go_sem]), ?_⟩
  exact ((Below.refl _ _).alloc (Nat.le_refl _) _).trans (hb2.mono (by simp))
set_option maxRecDepth 100000 in
set_option maxHeartbeats 1000000 in
theorem where_nil (W : World) : Calls Tryz.prog 11 #[.nilIface] W fun e w' => e = .returned (.agg #[.int .i64 0, .int .i64 0]) ∧ Below W.heap.size W w' := by
  have hmf : ∀ (fn : Fn) (first cap : Array Value) (w : World), (Instr.makeFunc fn first cap).run Tryz.prog w = .ok (.func fn first cap) w := fun _ _ _ _ => rfl
  go_enter Tryz.func11, Tryz.ntmps11
  go_wp2_with (first
    | (go_at_call 31; refine (begin_nil _).mono ?_; rintro e w1 ⟨rfl, hs, hb⟩)
    | (go_at_call 32; simp only [size_one] at hs; refine (each_stopped _ _ (stopped_alloc hs)).mono ?_; rintro e w2 ⟨rfl, hk⟩; obtain ⟨q0, q1, f0, f1, hb2⟩ := nil_cells hb hk))
  refine bodyPost_ret (v := .agg #[.int .i64 0, .int .i64 0]) (by simp [results, Tryz.results11, go_sem, q0, q1, f0, f1]) rfl ⟨rfl, ?_⟩
  exact (hb2.setCell (Nat.le_refl _) _).setCell (Nat.le_refl _) _
end Fk
namespace Tx
theorem kind_fault (o : Option (Int × Int)) (r : Value) (w : World) (h : FaultOut 4 o r w) : Calls Tryz.prog 10 #[r] w fun e w' => e = .returned (.int .i64 (lk o)) ∧ Below w.heap.size w w' := by
  cases o with
  | none =>
    obtain rfl : r = .nilIface := h
    exact Fk.Kind_chain none [] _ w rfl (by simp)
  | some p =>
    obtain ⟨b, rfl, he⟩ := h
    exact kind_err (k := 4) he (by decide) (by decide)
theorem where_fault (o : Option (Int × Int)) (r : Value) (w : World) (h : FaultOut 4 o r w) : Calls Tryz.prog 11 #[r] w fun e w' => e = .returned (.agg #[.int .i64 (ll o), .int .i64 (lc' o)]) ∧ Below w.heap.size w w' := by
  cases o with
  | none =>
    obtain rfl : r = .nilIface := h
    exact Fk.where_nil w
  | some p =>
    obtain ⟨b, rfl, he⟩ := h
    exact where_err he
end Tx
end Go.Proofs.YtecfknbhnhcioaaGreatDoor
