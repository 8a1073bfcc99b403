/- Pick, of bool. -/
import Derived.Test.YtggoejghnlgigaaTwh
namespace Go.Proofs.Ytggoejghnlgigaa
open Go.ChangeShapes Go.WideShapes Go.ChangeAt Go.RowKit Go.Maps
namespace Tx
set_option linter.unusedVariables false
set_option linter.unusedSimpArgs false
def b2i (q : Bool) : Int := if q then 1 else 0
theorem alloc2e {W W2 : World} {o1 o2 : Obj} (h : (W.alloc o1).alloc o2 = W2) : W2.heap[W.heap.size + 1]? = some o2 := by
  have := alloc_at (W.alloc o1) o2
  rw [← h]
  simpa using this
set_option maxHeartbeats 2000000 in
theorem pick_bool (tv : Value) (s : ByteArray) (q : Bool) (hq : (s.toList == [116, 114, 117, 101]) = q) (W : World) : Calls Try.prog 22 #[.agg #[.int .u8 1, tv], .string s] W (Makes W (exp 2 0 (b2i q) ⟨#[]⟩ (.slice none 0 0) (.slice none 0 0))) := by
  go_enter Try.func22, Try.ntmps22
  go_wp2_with fail
  generalize hW2 : (W.alloc _).alloc _ = W2
  have b2 : Below W.heap.size W W2 := by rw [← hW2]; exact ((Below.refl _ _).alloc (Nat.le_refl _) _).alloc (by simp) _
  have z2 : W2.heap.size = W.heap.size + 2 := by rw [← hW2]; simp
  have hg := alloc2e hW2
  clear hW2
  refine (bool_any q W2).mono ?_
  rintro e w1 ⟨rfl, hb⟩
  have hg1 : w1.heap[W.heap.size + 1]? = _ := (hb.block _ (by omega)).trans hg
  obtain ⟨x0, x1, x2, x3, x4, x5, x6, x7⟩ := cells8 hg1
  have hbW := keeps_below (F := fun _ => False) b2 (Keeps.below hb) b2.size (fun _ h => h.elim)
  have hfz : ∀ j, w1.frozen? ⟨W.heap.size + 1, j, none⟩ = false := fun j => by simp [World.frozen?, hg1]
  generalize hbi : (if q = true then (1 : Int) else 0) = z
  have hz : b2i q = z := hbi
  clear hbi hg b2 hq
  unfold exp
  go_wp2_with fail
  rw [hz]
  (try simp only [Exit.inBlock, Exit.then])
  refine bodyPost_ret (v := .agg #[.int .u8 2, .int .u8 0, .int .i32 z, .string ⟨#[]⟩, .slice none 0 0, .slice none 0 0, .int .i64 0, .int .i64 0]) (by simp [results, Try.results22, go_sem, x0, x1, x2, x3, x4, x5, x6, x7]) rfl ⟨rfl, ?_⟩
  refine keeps_below (F := fun k => k = W.heap.size + 1) hbW (((((((((Keeps.refl (fun k => k = W.heap.size + 1) w1).setCell (p := ⟨W.heap.size + 1, 0, none⟩) rfl _).setCell (p := ⟨W.heap.size + 1, 1, none⟩) rfl _).setCell (p := ⟨W.heap.size + 1, 2, none⟩) rfl _).setCell (p := ⟨W.heap.size + 1, 3, none⟩) rfl _).setCell (p := ⟨W.heap.size + 1, 4, none⟩) rfl _).setCell (p := ⟨W.heap.size + 1, 5, none⟩) rfl _).setCell (p := ⟨W.heap.size + 1, 6, none⟩) rfl _).setCell (p := ⟨W.heap.size + 1, 7, none⟩) rfl _) hbW.size (fun k hk => by omega)
set_option maxHeartbeats 2000000 in
theorem pick_ctor (k : Int) (hk : (k == 1) = false) (tv : Value) (s : ByteArray) (W : World) : Calls Try.prog 22 #[.agg #[.int .u8 k, tv], .string s] W (Makes W (exp 3 0 0 s (.slice none 0 0) (.slice none 0 0))) := by
  go_enter Try.func22, Try.ntmps22
  go_wp2_with fail
  generalize hW2 : (W.alloc _).alloc _ = W2
  have b2 : Below W.heap.size W W2 := by rw [← hW2]; exact ((Below.refl _ _).alloc (Nat.le_refl _) _).alloc (by simp) _
  have z2 : W2.heap.size = W.heap.size + 2 := by rw [← hW2]; simp
  have hg := alloc2e hW2
  clear hW2
  refine (ctor_any s W2).mono ?_
  rintro e w1 ⟨rfl, hb⟩
  have hg1 : w1.heap[W.heap.size + 1]? = _ := (hb.block _ (by omega)).trans hg
  obtain ⟨x0, x1, x2, x3, x4, x5, x6, x7⟩ := cells8 hg1
  have hbW := keeps_below (F := fun _ => False) b2 (Keeps.below hb) b2.size (fun _ h => h.elim)
  have hfz : ∀ j, w1.frozen? ⟨W.heap.size + 1, j, none⟩ = false := fun j => by simp [World.frozen?, hg1]
  clear hg b2 hk
  unfold exp
  go_wp2_with fail
  (try simp only [Exit.inBlock, Exit.then])
  refine bodyPost_ret (v := .agg #[.int .u8 3, .int .u8 0, .int .i32 0, .string s, .slice none 0 0, .slice none 0 0, .int .i64 0, .int .i64 0]) (by simp [results, Try.results22, go_sem, x0, x1, x2, x3, x4, x5, x6, x7]) rfl ⟨rfl, ?_⟩
  refine keeps_below (F := fun k => k = W.heap.size + 1) hbW (((((((((Keeps.refl (fun k => k = W.heap.size + 1) w1).setCell (p := ⟨W.heap.size + 1, 0, none⟩) rfl _).setCell (p := ⟨W.heap.size + 1, 1, none⟩) rfl _).setCell (p := ⟨W.heap.size + 1, 2, none⟩) rfl _).setCell (p := ⟨W.heap.size + 1, 3, none⟩) rfl _).setCell (p := ⟨W.heap.size + 1, 4, none⟩) rfl _).setCell (p := ⟨W.heap.size + 1, 5, none⟩) rfl _).setCell (p := ⟨W.heap.size + 1, 6, none⟩) rfl _).setCell (p := ⟨W.heap.size + 1, 7, none⟩) rfl _) hbW.size (fun k hk => by omega)
end Tx
end Go.Proofs.Ytggoejghnlgigaa
