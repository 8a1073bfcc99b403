/- Two expressions compared, by the program. -/
import Derived.Test.YtggoejghnlgigaaTsx
import Derived.Test.YtggoejghnlgigaaTs
namespace Go.Proofs.Ytggoejghnlgigaa
open Go.ChangeShapes Go.WideShapes Go.ChangeAt Go.RowKit Go.Maps
namespace Tx
set_option linter.unusedVariables false
set_option linter.unusedSimpArgs false
theorem blk3 (W : World) (o0 o1 o2 o3 : Obj) : ((((W.alloc o0).alloc o1).alloc o2).alloc o3).drew.heap[W.heap.size + 1]? = some o1 ∧ ((((W.alloc o0).alloc o1).alloc o2).alloc o3).drew.heap[W.heap.size + 1 + 1]? = some o2 ∧ ((((W.alloc o0).alloc o1).alloc o2).alloc o3).drew.heap[W.heap.size + 1 + 1 + 1]? = some o3 := by
  have e : ((((W.alloc o0).alloc o1).alloc o2).alloc o3).drew.heap = (((W.heap.push o0).push o1).push o2).push o3 := rfl
  rw [e]
  refine ⟨?_, ?_, ?_⟩
  · rw [Array.getElem?_push, if_neg (by simp only [Array.size_push]; omega), Array.getElem?_push, if_neg (by simp only [Array.size_push]; omega), Array.getElem?_push, if_pos (by simp only [Array.size_push])]
  · rw [Array.getElem?_push, if_neg (by simp only [Array.size_push]; omega), Array.getElem?_push, if_pos (by simp only [Array.size_push])]
  · rw [Array.getElem?_push, if_pos (by simp only [Array.size_push])]
theorem below3 (W : World) (o0 o1 o2 o3 : Obj) : Below W.heap.size W ((((W.alloc o0).alloc o1).alloc o2).alloc o3).drew :=
  (((((Below.refl _ _).alloc (Nat.le_refl _) _).alloc (by simp) _).alloc (by simp; omega) _).alloc (by simp; omega) _).drew
/-- One expression in a block of its own is a list of one. -/
theorem one_in {B B' : Nat → Prop} {w w' : World} {d : Dt} {ks : Fo} {nv kv : Value} {lb : Nat} {t : TypeId} {fr : Nat × Nat} (hn : NamesIn B w nv d.ns) (hk : KidsIn B w kv ks) (hBB : ∀ k, B k → B' k) (hl : B' lb)
    (kp : ∀ b o v, B b → w.cell? ⟨b, o, none⟩ = some v → w'.cell? ⟨b, o, none⟩ = some v) (hb : w'.heap[lb]? = some (.cells (cells d nv kv).toArray t fr)) : KidsIn B' w' (.slice (some ⟨lb, 0, none⟩) 1 1) (.cons d ks .nil) := by
  refine .inr ⟨lb, 0, 1, rfl, Nat.le_refl _, by decide, hl, ⟨nv, kv, fun j v hj => ?_, (hn.keep kp).mono hBB, (hk.keep kp).mono hBB⟩, trivial⟩
  rw [Nat.zero_add, cell_of_row w' lb j _ _ _ hb]
  simpa using hj
theorem four {W W4 : World} {o0 o1 o2 o3 : Obj} (h : (((W.alloc o0).alloc o1).alloc o2).alloc o3 = W4) : W4.heap[W.heap.size + 1 + 1]? = some o2 ∧ W4.heap[W.heap.size + 1 + 1 + 1]? = some o3 ∧ Below W.heap.size W W4 ∧ W4.heap.size = W.heap.size + 4 := by
  subst h
  exact ⟨(blk3 W o0 o1 o2 o3).2.1, (blk3 W o0 o1 o2 o3).2.2, ((((Below.refl _ _).alloc (Nat.le_refl _) _).alloc (by simp) _).alloc (by simp; omega) _).alloc (by simp; omega) _, by simp⟩
/-- The same, of one expression. -/
def sameE (d1 : Dt) (k1 : Fo) (d2 : Dt) (k2 : Fo) : Bool := sameD d1 d2 && sameF k1 k2
theorem sameE_is (d1 : Dt) (k1 : Fo) (d2 : Dt) (k2 : Fo) : sameF (.cons d1 k1 .nil) (.cons d2 k2 .nil) = sameE d1 k1 d2 k2 := by simp [sameF, sameE]
set_option maxRecDepth 100000 in
set_option maxHeartbeats 4000000 in
theorem sameExpr_any (B : Nat → Prop) (W : World) (hB : ∀ k, B k → k < W.heap.size) (d1 d2 : Dt) (k1 k2 : Fo) (nv1 kv1 nv2 kv2 : Value) (hn1 : NamesIn B W nv1 d1.ns) (hk1 : KidsIn B W kv1 k1) (hn2 : NamesIn B W nv2 d2.ns) (hk2 : KidsIn B W kv2 k2) (hsz : k1.size ≤ 100000) :
    Calls Try.prog 31 #[exV d1 nv1 kv1, exV d2 nv2 kv2] W (Ans W (sameE d1 k1 d2 k2)) := by
  have HN1 := Lib.hid hn1
  have HN2 := Lib.hid hn2
  have HK1 := Lib.hid hk1
  have HK2 := Lib.hid hk2
  have HB := Lib.hid hB
  have HSZ := Lib.hid hsz
  generalize hre : sameE d1 k1 d2 k2 = r
  have HRE := Lib.hid hre
  clear hre
  clear hn1 hn2 hk1 hk2 hB hsz
  unfold exV
  go_enter Try.func31, Try.ntmps31
  go_wp2_with fail
  generalize hW4 : (((W.alloc _).alloc _).alloc _).alloc _ = W4
  obtain ⟨b2, b3, bl, z4⟩ := four hW4
  clear hW4
  have kp : ∀ b o v, B b → W.cell? ⟨b, o, none⟩ = some v → W4.cell? ⟨b, o, none⟩ = some v := fun b o v hb hc => (bl.cell (p := ⟨b, o, none⟩) (HB.out b hb)).trans hc
  have q1 := one_in (B' := fun k => B k ∨ k = W.heap.size + 1 + 1 ∨ k = W.heap.size + 1 + 1 + 1) HN1.out HK1.out (fun k h => .inl h) (.inr (.inl rfl)) kp b2
  have q2 := one_in (B' := fun k => B k ∨ k = W.heap.size + 1 + 1 ∨ k = W.heap.size + 1 + 1 + 1) HN2.out HK2.out (fun k h => .inl h) (.inr (.inr rfl)) kp b3
  have hr := sameExprs_any (fun k => B k ∨ k = W.heap.size + 1 + 1 ∨ k = W.heap.size + 1 + 1 + 1) W4 (fun k hk => by
    rcases hk with h | h | h
    · have := HB.out k h; omega
    · omega
    · omega) _ _ _ _ q1 q2 (by have := HSZ.out; simp only [Fo.size]; omega)
  rw [sameE_is, HRE.out] at hr
  clear q1 q2 kp b2 b3
  refine hr.mono ?_
  rintro e w' ⟨rfl, hb'⟩
  clear hr
  go_wp2
  go_ret
  exact ⟨rfl, bl.trans (hb'.mono bl.size)⟩
end Tx
end Go.Proofs.Ytggoejghnlgigaa
