/- Two variables compared, by the program. -/
import Derived.Test.YtggoejghnlgigaaTva
namespace Go.Proofs.Ytggoejghnlgigaa
open Go.ChangeShapes Go.WideShapes Go.ChangeAt Go.RowKit Go.Maps Go.Joins
namespace Tx
set_option linter.unusedVariables false
set_option linter.unusedSimpArgs false
theorem var_cells {w : World} {b : Nat} {c0 c1 c2 c3 c4 c5 c6 c7 c8 c9 c10 c11 c12 c13 c14 : Value} {t : TypeId} {fr : Nat × Nat} (h : w.heap[b]? = some (.cells #[c0, c1, c2, c3, c4, c5, c6, c7, c8, c9, c10, c11, c12, c13, c14] t fr)) :
    w.cell? ⟨b, 4, none⟩ = some c4 ∧ w.cell? ⟨b, 5, none⟩ = some c5 ∧ w.cell? ⟨b, 6, none⟩ = some c6 ∧ w.cell? ⟨b, 7, none⟩ = some c7 ∧ w.cell? ⟨b, 8, none⟩ = some c8 ∧ w.cell? ⟨b, 9, none⟩ = some c9 ∧ w.cell? ⟨b, 10, none⟩ = some c10 ∧ w.cell? ⟨b, 11, none⟩ = some c11 ∧ w.cell? ⟨b, 12, none⟩ = some c12 := by
  refine ⟨?_, ?_, ?_, ?_, ?_, ?_, ?_, ?_, ?_⟩ <;> (rw [cell_of_row w b _ _ _ _ h]; rfl)
set_option maxRecDepth 100000 in
set_option maxHeartbeats 8000000 in
theorem sameVar_any (B : Nat → Prop) (W : World) (hB : ∀ k, B k → k < W.heap.size) (x y : Vd) (cv nv kv cv' nv' kv' : Value) (hx : VarIn B W x cv nv kv) (hy : VarIn B W y cv' nv' kv') (hsz : x.ks.size ≤ 100000) (r : Bool) (hr : sameV x y = r) :
    Calls Try.prog 8 #[varV x cv nv kv, varV y cv' nv' kv'] W (Ans W r) := by
  obtain ⟨ca, cc, rfl⟩ := hx.ck.form
  obtain ⟨ca', cc', rfl⟩ := hy.ck.form
  have HX := Lib.hid hx
  have HY := Lib.hid hy
  have HB := Lib.hid hB
  have HSZ := Lib.hid hsz
  have HR := Lib.hid hr
  clear hx hy hB hsz hr
  have halloc : ∀ o1 o2 : Obj, Below W.heap.size W ((W.alloc o1).alloc o2) := fun o1 o2 => ((Below.refl _ _).alloc (Nat.le_refl _) _).alloc (by simp) _
  have HA := Lib.hid halloc
  clear halloc
  unfold varV
  cases t0 : (x.nm.toList == y.nm.toList)
  · have h1 : r = false := by rw [← HR.out]; simp [sameV, t0]
    subst h1
    go_enter Try.func8, Try.ntmps8
    go_wp2
    go_ret
    exact ⟨rfl, HA.out _ _⟩
  cases t1 : (x.tk == y.tk)
  · have h1 : r = false := by rw [← HR.out]; simp [sameV, t1]
    subst h1
    go_enter Try.func8, Try.ntmps8
    go_wp2
    go_ret
    exact ⟨rfl, HA.out _ _⟩
  cases t2 : (x.tn.toList == y.tn.toList)
  · have h1 : r = false := by rw [← HR.out]; simp [sameV, t2]
    subst h1
    go_enter Try.func8, Try.ntmps8
    go_wp2
    go_ret
    exact ⟨rfl, HA.out _ _⟩
  generalize hc : sameC x.ck y.ck = qc
  have HC := Lib.hid hc
  clear hc
  have HRR : Hid ((qc && ((x.last == y.last) && sameE x.d x.ks y.d y.ks)) = r) := Lib.hid (by rw [← HR.out, ← HC.out]; simp [sameV, t0, t1, t2])
  go_enter Try.func8, Try.ntmps8
  go_wp2_with fail
  clear t0 t1 t2
  generalize hW2 : (W.alloc _).alloc _ = W2
  obtain ⟨g1, g2, bl, z2⟩ := two hW2
  clear hW2
  have kp : ∀ b o v, B b → W.cell? ⟨b, o, none⟩ = some v → W2.cell? ⟨b, o, none⟩ = some v := fun b o v hb hc => (bl.cell (p := ⟨b, o, none⟩) (HB.out b hb)).trans hc
  have hx2 := HX.out.keep kp
  have hy2 := HY.out.keep kp
  have HX2 := Lib.hid hx2
  have HY2 := Lib.hid hy2
  have hB2 : ∀ k, B k → k < W2.heap.size := fun k hk => Nat.lt_of_lt_of_le (HB.out k hk) bl.size
  have HB2 := Lib.hid hB2
  clear kp hx2 hy2 hB2
  refine (ceq_any B W2 _ _ x.ck y.ck HX2.out.ck HY2.out.ck).mono ?_
  rw [HC.out]
  rintro e w' ⟨rfl, q, rfl⟩
  have BD := Lib.hid (show Below W.heap.size W (W2.drewN q) from below_drewN bl q)
  obtain ⟨x4, x5, x6, x7, x8, x9, x10, x11, x12⟩ := var_cells g1
  obtain ⟨y4, y5, y6, y7, y8, y9, y10, y11, y12⟩ := var_cells g2
  clear g1 g2
  cases qc
  · have h1 : r = false := by rw [← HRR.out]; rfl
    subst h1
    go_wp2
    go_ret
    exact ⟨rfl, BD.out⟩
  cases t3 : (x.last == y.last)
  · have h1 : r = false := by rw [← HRR.out, t3]; rfl
    subst h1
    go_wp2
    go_ret
    exact ⟨rfl, BD.out⟩
  have h1 : sameE x.d x.ks y.d y.ks = r := by rw [← HRR.out, t3]; rfl
  have HE := Lib.hid h1
  clear h1
  go_wp2_with fail
  refine (sameExpr_any B (W2.drewN q) HB2.out x.d y.d x.ks y.ks nv kv nv' kv' (HX2.out.ns.keep (w := W2) (w' := W2.drewN q) (fun b o v hb hc => hc)) (HX2.out.ks.keep (w := W2) (w' := W2.drewN q) (fun b o v hb hc => hc)) (HY2.out.ns.keep (w := W2) (w' := W2.drewN q) (fun b o v hb hc => hc)) (HY2.out.ks.keep (w := W2) (w' := W2.drewN q) (fun b o v hb hc => hc)) HSZ.out).mono ?_
  rw [HE.out]
  rintro e w3 ⟨rfl, hb3⟩
  clear x4 x5 x6 x7 x8 x9 x10 x11 x12 y4 y5 y6 y7 y8 y9 y10 y11 y12 t3
  go_wp2
  go_ret
  exact ⟨rfl, BD.out.trans (hb3.mono BD.out.size)⟩
end Tx
end Go.Proofs.Ytggoejghnlgigaa
