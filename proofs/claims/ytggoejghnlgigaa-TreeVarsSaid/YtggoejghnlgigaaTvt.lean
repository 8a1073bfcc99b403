/- Lists of variables compared, by the reference. -/
import Derived.Test.YtggoejghnlgigaaTvs
namespace Go.Proofs.Ytggoejghnlgigaa
open Go.ChangeShapes Go.WideShapes Go.ChangeAt Go.RowKit Go.Maps Go.Joins
namespace Tx
set_option linter.unusedVariables false
set_option linter.unusedSimpArgs false
/-- Variables lie side by side behind a slice. -/
def VarsIn (B : Nat → Prop) (w : World) (v : Value) (l : List Vd) : Prop :=
  ((∃ a c, v = .slice a 0 c) ∧ l = []) ∨ ∃ b o cap, v = .slice (some ⟨b, o, none⟩) l.length cap ∧ l.length ≤ cap ∧ cap ≤ maxLen ∧ B b ∧
    ∀ i x, l[i]? = some x → ∃ cv nv kv, (∀ j u, (vcells x cv nv kv)[j]? = some u → w.cell? ⟨b, o + i * 15 + j, none⟩ = some u) ∧ VarIn B w x cv nv kv
theorem VarsIn.keep {B : Nat → Prop} {w w' : World} (hb : ∀ b o v, B b → w.cell? ⟨b, o, none⟩ = some v → w'.cell? ⟨b, o, none⟩ = some v) {v : Value} {l : List Vd} (h : VarsIn B w v l) : VarsIn B w' v l := by
  rcases h with h | ⟨b, o, cap, h1, h2, h3, h4, h5⟩
  · exact .inl h
  · refine .inr ⟨b, o, cap, h1, h2, h3, h4, fun i x hi => ?_⟩
    obtain ⟨cv, nv, kv, hc, hx⟩ := h5 i x hi
    exact ⟨cv, nv, kv, fun j u hj => hb _ _ _ h4 (hc j u hj), hx.keep hb⟩
theorem VarsIn.form {B : Nat → Prop} {w : World} {v : Value} {l : List Vd} (h : VarsIn B w v l) : ∃ ao c, v = .slice ao l.length c := by
  rcases h with ⟨h, rfl⟩ | ⟨b, o, cap, e, _⟩
  · exact h
  · exact ⟨_, _, e⟩
theorem VarsIn.le {B : Nat → Prop} {w : World} {v : Value} {l : List Vd} (h : VarsIn B w v l) : l.length ≤ maxLen := by
  rcases h with ⟨h, rfl⟩ | ⟨b, o, cap, e, h1, h2, _⟩
  · exact Nat.zero_le _
  · omega
theorem VarsIn.one {B : Nat → Prop} {w : World} {ao : Option Addr} {n k : Nat} {l : List Vd} (h : VarsIn B w (.slice ao n k) l) {i : Nat} (hi : i < l.length) :
    ∃ b o x cv nv kv, ao = some ⟨b, o, none⟩ ∧ l[i]? = some x ∧ (∀ j u, (vcells x cv nv kv)[j]? = some u → w.cell? ⟨b, o + i * 15 + j, none⟩ = some u) ∧ VarIn B w x cv nv kv := by
  rcases h with ⟨_, rfl⟩ | ⟨b, o, cap, e, h1, h2, h3, h4⟩
  · simp at hi
  · injection e with e1 _ _
    obtain ⟨cv, nv, kv, h5, h6⟩ := h4 i _ (List.getElem?_eq_getElem hi)
    exact ⟨b, o, l[i], cv, nv, kv, e1, List.getElem?_eq_getElem hi, h5, h6⟩
def sameVs : List Vd → List Vd → Bool
  | [], [] => true
  | x :: l, y :: m => sameV x y && sameVs l m
  | _, _ => false
theorem sameVs_len : ∀ (l m : List Vd), sameVs l m = true → l.length = m.length
  | [], [], _ => rfl
  | a :: l, b :: m, h => by
    simp only [sameVs, Bool.and_eq_true] at h
    simp [sameVs_len l m h.2]
  | [], _ :: _, h => by simp [sameVs] at h
  | _ :: _, [], h => by simp [sameVs] at h
theorem sameVs_ne {l m : List Vd} (h : l.length ≠ m.length) : sameVs l m = false := by
  cases e : sameVs l m
  · rfl
  · exact absurd (sameVs_len l m e) h
theorem sameVs_drop {l m : List Vd} {i : Nat} {a b : Vd} (ha : l[i]? = some a) (hb : m[i]? = some b) : sameVs (l.drop i) (m.drop i) = (sameV a b && sameVs (l.drop (i + 1)) (m.drop (i + 1))) := by
  obtain ⟨h1, rfl⟩ := List.getElem?_eq_some_iff.1 ha
  obtain ⟨h2, rfl⟩ := List.getElem?_eq_some_iff.1 hb
  rw [List.drop_eq_getElem_cons h1, List.drop_eq_getElem_cons h2, sameVs]
theorem sameVs_done {l m : List Vd} {i : Nat} (h : l.length ≤ i) (hm : m.length ≤ i) : sameVs (l.drop i) (m.drop i) = true := by
  rw [List.drop_of_length_le h, List.drop_of_length_le hm, sameVs]
theorem bel3 {W wr w' w3 : World} (h3 : Below w'.heap.size w' w3) (h : Below W.heap.size W wr) (hk : Keeps (fun _ => False) wr w') : Below W.heap.size W w3 := by
  have h1 : Below W.heap.size W w' := ⟨hk.os.trans h.os, hk.tape.trans h.tape, hk.output.trans h.output, Nat.le_trans h.size hk.size, fun j hj => (hk.block j (Nat.lt_of_lt_of_le hj h.size) id).trans (h.block j hj)⟩
  exact h1.trans (h3.mono h1.size)
set_option maxRecDepth 100000 in
set_option maxHeartbeats 8000000 in
theorem refVars_any (B : Nat → Prop) (W : World) (hB : ∀ k, B k → k < W.heap.size) (va vb : Value) (l m : List Vd) (hl : VarsIn B W va l) (hm : VarsIn B W vb m) (r : Bool) (hr : sameVs l m = r) :
    Calls Try.prog 9 #[va, vb] W (Ans W r) := by
  obtain ⟨xa, ca, rfl⟩ := hl.form
  obtain ⟨xb, cb, rfl⟩ := hm.form
  have hle := hl.le
  unfold maxLen at hle
  have HA := Lib.hid hl
  have HBB := Lib.hid hm
  have HB := Lib.hid hB
  generalize hN : l.length = N at hle HA ⊢
  generalize hM : m.length = M at HBB ⊢
  have HN := Lib.hid hN
  have HM := Lib.hid hM
  have HR := Lib.hid hr
  clear hl hm hB hN hM hr
  by_cases hlen : N = M
  · subst hlen
    go_enter Try.func9, Try.ntmps9
    go_wp2
    go_loopg [5] N (fun g iv wr => ∃ i : Nat, i + g = N ∧ iv = .int .i64 i ∧ Below W.heap.size W wr ∧ sameVs (l.drop i) (m.drop i) = r)
    case atStart => exact ⟨0, by omega, rfl, Below.refl _ _, HR.out⟩
    case round =>
      obtain ⟨i, hig, rfl, hbw, hs⟩ := hrel
      have HBW := Lib.hid hbw
      have HS := Lib.hid hs
      have kp2 : ∀ b o v, B b → W.cell? ⟨b, o, none⟩ = some v → wr.cell? ⟨b, o, none⟩ = some v := fun b o v hb hc => (hbw.cell (p := ⟨b, o, none⟩) (HB.out b hb)).trans hc
      have ka := HA.out.keep kp2
      have kb := HBB.out.keep kp2
      have hB2 : ∀ k, B k → k < wr.heap.size := fun k hk => Nat.lt_of_lt_of_le (HB.out k hk) hbw.size
      have HB2 := Lib.hid hB2
      clear hbw hs kp2 hB2
      by_cases hi : i < N
      · obtain ⟨b1, o1, x, cv, nv, kv, rfl, g1, x1, x2⟩ := ka.one (i := i) (by rw [HN.out]; exact hi)
        obtain ⟨b2, o2, y, cv', nv', kv', rfl, g2, y1, y2⟩ := kb.one (i := i) (by rw [HM.out]; exact hi)
        obtain ⟨cva, cvn, rfl⟩ := x2.ck.form
        obtain ⟨cvb, cvm, rfl⟩ := y2.ck.form
        have u0 : wr.cell? ⟨b1, o1 + i * 15, none⟩ = some (.string x.nm) := x1 0 _ rfl
        have u1 := x1 1 (.int .u8 x.tk) rfl
        have u2 := x1 2 (.string x.tn) rfl
        have u3 := x1 3 (.slice cva x.ck.length cvn) rfl
        have u4 := x1 4 (.bool x.last) rfl
        have u5 := x1 5 (.int .u8 x.d.k) rfl
        have u6 := x1 6 (.int .u8 x.d.op) rfl
        have u7 := x1 7 (.int .i32 x.d.n) rfl
        have u8 := x1 8 (.string x.d.nm) rfl
        have u9 := x1 9 nv rfl
        have u10 := x1 10 kv rfl
        have u11 := x1 11 (.int .i64 x.d.line) rfl
        have u12 := x1 12 (.int .i64 x.d.col) rfl
        have v0 : wr.cell? ⟨b2, o2 + i * 15, none⟩ = some (.string y.nm) := y1 0 _ rfl
        have v1 := y1 1 (.int .u8 y.tk) rfl
        have v2 := y1 2 (.string y.tn) rfl
        have v3 := y1 3 (.slice cvb y.ck.length cvm) rfl
        have v4 := y1 4 (.bool y.last) rfl
        have v5 := y1 5 (.int .u8 y.d.k) rfl
        have v6 := y1 6 (.int .u8 y.d.op) rfl
        have v7 := y1 7 (.int .i32 y.d.n) rfl
        have v8 := y1 8 (.string y.d.nm) rfl
        have v9 := y1 9 nv' rfl
        have v10 := y1 10 kv' rfl
        have v11 := y1 11 (.int .i64 y.d.line) rfl
        have v12 := y1 12 (.int .i64 y.d.col) rfl
        have HX := Lib.hid x2
        have HY := Lib.hid y2
        have HD := Lib.hid (sameVs_drop g1 g2)
        clear g1 g2 x1 x2 y1 y2 ka kb
        cases t0 : (x.nm.toList == y.nm.toList)
        · have hf : r = false := by rw [← HS.out, HD.out]; simp [sameV, t0]
          subst hf
          have t0' : (x.nm.toList != y.nm.toList) = true := by rw [bne, t0]; rfl
          go_wp2_with fail
          simp only [List.append_eq, List.cons_append, List.nil_append]
          go_quiet (fail)
          go_wp2
          go_ret
          exact ⟨rfl, below_drewN HBW.out _⟩
        have t0' : (x.nm.toList != y.nm.toList) = false := by rw [bne, t0]; rfl
        cases t1 : (x.tk == y.tk)
        · have hf : r = false := by rw [← HS.out, HD.out]; simp [sameV, t1]
          subst hf
          go_wp2_with fail
          simp only [List.append_eq, List.cons_append, List.nil_append]
          go_quiet (fail)
          go_wp2
          go_ret
          exact ⟨rfl, below_drewN HBW.out _⟩
        cases t2 : (x.tn.toList == y.tn.toList)
        · have hf : r = false := by rw [← HS.out, HD.out]; simp [sameV, t2]
          subst hf
          go_wp2_with fail
          simp only [List.append_eq, List.cons_append, List.nil_append]
          go_quiet (fail)
          go_wp2
          go_ret
          exact ⟨rfl, below_drewN HBW.out _⟩
        generalize hc : sameC x.ck y.ck = qc
        have HCQ : Hid (∀ n, Calls Try.prog 32 #[.slice cva x.ck.length cvn, .slice cvb y.ck.length cvm] (wr.drewN n) (fun e w' => e = .returned (.bool qc) ∧ ∃ k, w' = (wr.drewN n).drewN k)) := Lib.hid (fun n => by
          have h := rclock_any B (wr.drewN n) _ _ x.ck y.ck (HX.out.ck.keep (w := wr) (w' := wr.drewN n) (fun b o v hb hc => hc)) (HY.out.ck.keep (w := wr) (w' := wr.drewN n) (fun b o v hb hc => hc))
          rw [hc] at h
          exact h)
        have HC := Lib.hid hc
        clear hc
        cases qc
        · have hf : r = false := by rw [← HS.out, HD.out]; simp [sameV, HC.out]
          subst hf
          go_wp2_with fail
          simp only [List.append_eq, List.cons_append, List.nil_append]
          go_quiet ((go_at_call 32; exact Calls.quiet_of (HCQ.out _)))
          go_wp2
          go_ret
          exact ⟨rfl, below_drewN HBW.out _⟩
        cases t3 : (x.last == y.last)
        · have hf : r = false := by rw [← HS.out, HD.out]; simp [sameV, t3]
          subst hf
          have t3' : (x.last != y.last) = true := by rw [bne, t3]; rfl
          go_wp2_with fail
          simp only [List.append_eq, List.cons_append, List.nil_append]
          go_quiet ((go_at_call 32; exact Calls.quiet_of (HCQ.out _)))
          go_wp2
          go_ret
          exact ⟨rfl, below_drewN HBW.out _⟩
        have t3' : (x.last != y.last) = false := by rw [bne, t3]; rfl
        have hv : sameV x y = sameE x.d x.ks y.d y.ks := by simp [sameV, t0, t1, t2, t3, HC.out]
        have HV := Lib.hid hv
        clear hv
        have HCK : Hid (∀ w', Keeps (fun _ => False) wr w' → Calls Try.prog 32 #[.slice cva x.ck.length cvn, .slice cvb y.ck.length cvm] w' (SaysQ w' true)) := Lib.hid (fun w' hw' => by
          have h := rclock_any B w' _ _ x.ck y.ck (HX.out.ck.keep (w := wr) (w' := w') (fun b o v hb hc => hw'.cell hc id)) (HY.out.ck.keep (w := wr) (w' := w') (fun b o v hb hc => hw'.cell hc id))
          rw [HC.out] at h
          exact h)
        generalize hre : sameE x.d x.ks y.d y.ks = re at HV
        have HE : Hid (∀ w', Keeps (fun _ => False) wr w' → Calls Try.prog 33 #[exV x.d nv kv, exV y.d nv' kv'] w' (Ans w' re)) := Lib.hid (fun w' hw' => by
          have h := refSame_any x.ks.size x.ks (Nat.le_refl _) B w' (fun k hk => Nat.lt_of_lt_of_le (HB2.out k hk) hw'.size) x.d y.d y.ks nv kv nv' kv' (HX.out.ns.keep (w := wr) (w' := w') (fun b o v hb hc => hw'.cell hc id)) (HX.out.ks.keep (w := wr) (w' := w') (fun b o v hb hc => hw'.cell hc id)) (HY.out.ns.keep (w := wr) (w' := w') (fun b o v hb hc => hw'.cell hc id)) (HY.out.ks.keep (w := wr) (w' := w') (fun b o v hb hc => hw'.cell hc id))
          rw [hre] at h
          exact h)
        unfold exV at HE
        clear hre HCQ
        have B1 : b1 < wr.heap.size := World.block_lt_of_cell? wr _ u0
        have B2 : b2 < wr.heap.size := World.block_lt_of_cell? wr _ v0
        cases re
        · have hf : r = false := by rw [← HS.out, HD.out, HV.out, Bool.false_and]
          subst hf
          go_wp2_with fail
          simp only [List.append_eq, List.cons_append, List.nil_append]
          go_region_held3 (fun w' => w'.cell? ⟨b1, o1 + i * 15, none⟩ = some (.string x.nm) ∧ w'.cell? ⟨b1, o1 + i * 15 + 1, none⟩ = some (.int .u8 x.tk) ∧ w'.cell? ⟨b1, o1 + i * 15 + 2, none⟩ = some (.string x.tn) ∧ w'.cell? ⟨b1, o1 + i * 15 + 3, none⟩ = some (.slice cva x.ck.length cvn) ∧ w'.cell? ⟨b1, o1 + i * 15 + 4, none⟩ = some (.bool x.last) ∧ w'.cell? ⟨b1, o1 + i * 15 + 5, none⟩ = some (.int .u8 x.d.k) ∧ w'.cell? ⟨b1, o1 + i * 15 + 6, none⟩ = some (.int .u8 x.d.op) ∧ w'.cell? ⟨b1, o1 + i * 15 + 7, none⟩ = some (.int .i32 x.d.n) ∧ w'.cell? ⟨b1, o1 + i * 15 + 8, none⟩ = some (.string x.d.nm) ∧ w'.cell? ⟨b1, o1 + i * 15 + 9, none⟩ = some (nv) ∧ w'.cell? ⟨b1, o1 + i * 15 + 10, none⟩ = some (kv) ∧ w'.cell? ⟨b1, o1 + i * 15 + 11, none⟩ = some (.int .i64 x.d.line) ∧ w'.cell? ⟨b1, o1 + i * 15 + 12, none⟩ = some (.int .i64 x.d.col) ∧ w'.cell? ⟨b2, o2 + i * 15, none⟩ = some (.string y.nm) ∧ w'.cell? ⟨b2, o2 + i * 15 + 1, none⟩ = some (.int .u8 y.tk) ∧ w'.cell? ⟨b2, o2 + i * 15 + 2, none⟩ = some (.string y.tn) ∧ w'.cell? ⟨b2, o2 + i * 15 + 3, none⟩ = some (.slice cvb y.ck.length cvm) ∧ w'.cell? ⟨b2, o2 + i * 15 + 4, none⟩ = some (.bool y.last) ∧ w'.cell? ⟨b2, o2 + i * 15 + 5, none⟩ = some (.int .u8 y.d.k) ∧ w'.cell? ⟨b2, o2 + i * 15 + 6, none⟩ = some (.int .u8 y.d.op) ∧ w'.cell? ⟨b2, o2 + i * 15 + 7, none⟩ = some (.int .i32 y.d.n) ∧ w'.cell? ⟨b2, o2 + i * 15 + 8, none⟩ = some (.string y.d.nm) ∧ w'.cell? ⟨b2, o2 + i * 15 + 9, none⟩ = some (nv') ∧ w'.cell? ⟨b2, o2 + i * 15 + 10, none⟩ = some (kv') ∧ w'.cell? ⟨b2, o2 + i * 15 + 11, none⟩ = some (.int .i64 y.d.line) ∧ w'.cell? ⟨b2, o2 + i * 15 + 12, none⟩ = some (.int .i64 y.d.col))
            (first
              | go_keep
              | (go_split_ands; exact ⟨(hb3.cell (p := ⟨b1, o1 + i * 15, none⟩) (by simpa using B1)).trans (by assumption), (hb3.cell (p := ⟨b1, o1 + i * 15 + 1, none⟩) (by simpa using B1)).trans (by assumption), (hb3.cell (p := ⟨b1, o1 + i * 15 + 2, none⟩) (by simpa using B1)).trans (by assumption), (hb3.cell (p := ⟨b1, o1 + i * 15 + 3, none⟩) (by simpa using B1)).trans (by assumption), (hb3.cell (p := ⟨b1, o1 + i * 15 + 4, none⟩) (by simpa using B1)).trans (by assumption), (hb3.cell (p := ⟨b1, o1 + i * 15 + 5, none⟩) (by simpa using B1)).trans (by assumption), (hb3.cell (p := ⟨b1, o1 + i * 15 + 6, none⟩) (by simpa using B1)).trans (by assumption), (hb3.cell (p := ⟨b1, o1 + i * 15 + 7, none⟩) (by simpa using B1)).trans (by assumption), (hb3.cell (p := ⟨b1, o1 + i * 15 + 8, none⟩) (by simpa using B1)).trans (by assumption), (hb3.cell (p := ⟨b1, o1 + i * 15 + 9, none⟩) (by simpa using B1)).trans (by assumption), (hb3.cell (p := ⟨b1, o1 + i * 15 + 10, none⟩) (by simpa using B1)).trans (by assumption), (hb3.cell (p := ⟨b1, o1 + i * 15 + 11, none⟩) (by simpa using B1)).trans (by assumption), (hb3.cell (p := ⟨b1, o1 + i * 15 + 12, none⟩) (by simpa using B1)).trans (by assumption), (hb3.cell (p := ⟨b2, o2 + i * 15, none⟩) (by simpa using B2)).trans (by assumption), (hb3.cell (p := ⟨b2, o2 + i * 15 + 1, none⟩) (by simpa using B2)).trans (by assumption), (hb3.cell (p := ⟨b2, o2 + i * 15 + 2, none⟩) (by simpa using B2)).trans (by assumption), (hb3.cell (p := ⟨b2, o2 + i * 15 + 3, none⟩) (by simpa using B2)).trans (by assumption), (hb3.cell (p := ⟨b2, o2 + i * 15 + 4, none⟩) (by simpa using B2)).trans (by assumption), (hb3.cell (p := ⟨b2, o2 + i * 15 + 5, none⟩) (by simpa using B2)).trans (by assumption), (hb3.cell (p := ⟨b2, o2 + i * 15 + 6, none⟩) (by simpa using B2)).trans (by assumption), (hb3.cell (p := ⟨b2, o2 + i * 15 + 7, none⟩) (by simpa using B2)).trans (by assumption), (hb3.cell (p := ⟨b2, o2 + i * 15 + 8, none⟩) (by simpa using B2)).trans (by assumption), (hb3.cell (p := ⟨b2, o2 + i * 15 + 9, none⟩) (by simpa using B2)).trans (by assumption), (hb3.cell (p := ⟨b2, o2 + i * 15 + 10, none⟩) (by simpa using B2)).trans (by assumption), (hb3.cell (p := ⟨b2, o2 + i * 15 + 11, none⟩) (by simpa using B2)).trans (by assumption), (hb3.cell (p := ⟨b2, o2 + i * 15 + 12, none⟩) (by simpa using B2)).trans (by assumption)⟩))
            ((first
              | (go_at_call 32; refine (HCK.out _ (by exact ⟨rfl, rfl, rfl, Nat.le_refl _, fun _ _ _ => rfl⟩)).mono ?_; rintro e w1 ⟨rfl, kk, rfl⟩)
              | (go_at_call 33; refine (HE.out _ (by exact ⟨rfl, rfl, rfl, Nat.le_refl _, fun _ _ _ => rfl⟩)).mono ?_; rintro e w3 ⟨rfl, hb3⟩; have HB3 := Lib.hid hb3)))
          go_wp2
          go_ret
          exact ⟨rfl, bel3 (h3 := HB3.out) HBW.out (by exact ⟨rfl, rfl, rfl, Nat.le_refl _, fun _ _ _ => rfl⟩)⟩
        · have hf : sameVs (l.drop (i + 1)) (m.drop (i + 1)) = r := by rw [← HS.out, HD.out, HV.out, Bool.true_and]
          have HF := Lib.hid hf
          clear hf
          go_wp2_with fail
          simp only [List.append_eq, List.cons_append, List.nil_append]
          go_region_held3 (fun w' => w'.cell? ⟨b1, o1 + i * 15, none⟩ = some (.string x.nm) ∧ w'.cell? ⟨b1, o1 + i * 15 + 1, none⟩ = some (.int .u8 x.tk) ∧ w'.cell? ⟨b1, o1 + i * 15 + 2, none⟩ = some (.string x.tn) ∧ w'.cell? ⟨b1, o1 + i * 15 + 3, none⟩ = some (.slice cva x.ck.length cvn) ∧ w'.cell? ⟨b1, o1 + i * 15 + 4, none⟩ = some (.bool x.last) ∧ w'.cell? ⟨b1, o1 + i * 15 + 5, none⟩ = some (.int .u8 x.d.k) ∧ w'.cell? ⟨b1, o1 + i * 15 + 6, none⟩ = some (.int .u8 x.d.op) ∧ w'.cell? ⟨b1, o1 + i * 15 + 7, none⟩ = some (.int .i32 x.d.n) ∧ w'.cell? ⟨b1, o1 + i * 15 + 8, none⟩ = some (.string x.d.nm) ∧ w'.cell? ⟨b1, o1 + i * 15 + 9, none⟩ = some (nv) ∧ w'.cell? ⟨b1, o1 + i * 15 + 10, none⟩ = some (kv) ∧ w'.cell? ⟨b1, o1 + i * 15 + 11, none⟩ = some (.int .i64 x.d.line) ∧ w'.cell? ⟨b1, o1 + i * 15 + 12, none⟩ = some (.int .i64 x.d.col) ∧ w'.cell? ⟨b2, o2 + i * 15, none⟩ = some (.string y.nm) ∧ w'.cell? ⟨b2, o2 + i * 15 + 1, none⟩ = some (.int .u8 y.tk) ∧ w'.cell? ⟨b2, o2 + i * 15 + 2, none⟩ = some (.string y.tn) ∧ w'.cell? ⟨b2, o2 + i * 15 + 3, none⟩ = some (.slice cvb y.ck.length cvm) ∧ w'.cell? ⟨b2, o2 + i * 15 + 4, none⟩ = some (.bool y.last) ∧ w'.cell? ⟨b2, o2 + i * 15 + 5, none⟩ = some (.int .u8 y.d.k) ∧ w'.cell? ⟨b2, o2 + i * 15 + 6, none⟩ = some (.int .u8 y.d.op) ∧ w'.cell? ⟨b2, o2 + i * 15 + 7, none⟩ = some (.int .i32 y.d.n) ∧ w'.cell? ⟨b2, o2 + i * 15 + 8, none⟩ = some (.string y.d.nm) ∧ w'.cell? ⟨b2, o2 + i * 15 + 9, none⟩ = some (nv') ∧ w'.cell? ⟨b2, o2 + i * 15 + 10, none⟩ = some (kv') ∧ w'.cell? ⟨b2, o2 + i * 15 + 11, none⟩ = some (.int .i64 y.d.line) ∧ w'.cell? ⟨b2, o2 + i * 15 + 12, none⟩ = some (.int .i64 y.d.col))
            (first
              | go_keep
              | (go_split_ands; exact ⟨(hb3.cell (p := ⟨b1, o1 + i * 15, none⟩) (by simpa using B1)).trans (by assumption), (hb3.cell (p := ⟨b1, o1 + i * 15 + 1, none⟩) (by simpa using B1)).trans (by assumption), (hb3.cell (p := ⟨b1, o1 + i * 15 + 2, none⟩) (by simpa using B1)).trans (by assumption), (hb3.cell (p := ⟨b1, o1 + i * 15 + 3, none⟩) (by simpa using B1)).trans (by assumption), (hb3.cell (p := ⟨b1, o1 + i * 15 + 4, none⟩) (by simpa using B1)).trans (by assumption), (hb3.cell (p := ⟨b1, o1 + i * 15 + 5, none⟩) (by simpa using B1)).trans (by assumption), (hb3.cell (p := ⟨b1, o1 + i * 15 + 6, none⟩) (by simpa using B1)).trans (by assumption), (hb3.cell (p := ⟨b1, o1 + i * 15 + 7, none⟩) (by simpa using B1)).trans (by assumption), (hb3.cell (p := ⟨b1, o1 + i * 15 + 8, none⟩) (by simpa using B1)).trans (by assumption), (hb3.cell (p := ⟨b1, o1 + i * 15 + 9, none⟩) (by simpa using B1)).trans (by assumption), (hb3.cell (p := ⟨b1, o1 + i * 15 + 10, none⟩) (by simpa using B1)).trans (by assumption), (hb3.cell (p := ⟨b1, o1 + i * 15 + 11, none⟩) (by simpa using B1)).trans (by assumption), (hb3.cell (p := ⟨b1, o1 + i * 15 + 12, none⟩) (by simpa using B1)).trans (by assumption), (hb3.cell (p := ⟨b2, o2 + i * 15, none⟩) (by simpa using B2)).trans (by assumption), (hb3.cell (p := ⟨b2, o2 + i * 15 + 1, none⟩) (by simpa using B2)).trans (by assumption), (hb3.cell (p := ⟨b2, o2 + i * 15 + 2, none⟩) (by simpa using B2)).trans (by assumption), (hb3.cell (p := ⟨b2, o2 + i * 15 + 3, none⟩) (by simpa using B2)).trans (by assumption), (hb3.cell (p := ⟨b2, o2 + i * 15 + 4, none⟩) (by simpa using B2)).trans (by assumption), (hb3.cell (p := ⟨b2, o2 + i * 15 + 5, none⟩) (by simpa using B2)).trans (by assumption), (hb3.cell (p := ⟨b2, o2 + i * 15 + 6, none⟩) (by simpa using B2)).trans (by assumption), (hb3.cell (p := ⟨b2, o2 + i * 15 + 7, none⟩) (by simpa using B2)).trans (by assumption), (hb3.cell (p := ⟨b2, o2 + i * 15 + 8, none⟩) (by simpa using B2)).trans (by assumption), (hb3.cell (p := ⟨b2, o2 + i * 15 + 9, none⟩) (by simpa using B2)).trans (by assumption), (hb3.cell (p := ⟨b2, o2 + i * 15 + 10, none⟩) (by simpa using B2)).trans (by assumption), (hb3.cell (p := ⟨b2, o2 + i * 15 + 11, none⟩) (by simpa using B2)).trans (by assumption), (hb3.cell (p := ⟨b2, o2 + i * 15 + 12, none⟩) (by simpa using B2)).trans (by assumption)⟩))
            ((first
              | (go_at_call 32; refine (HCK.out _ (by exact ⟨rfl, rfl, rfl, Nat.le_refl _, fun _ _ _ => rfl⟩)).mono ?_; rintro e w1 ⟨rfl, kk, rfl⟩)
              | (go_at_call 33; refine (HE.out _ (by exact ⟨rfl, rfl, rfl, Nat.le_refl _, fun _ _ _ => rfl⟩)).mono ?_; rintro e w3 ⟨rfl, hb3⟩; have HB3 := Lib.hid hb3)))
          go_wp2
          go_roundg (N - (i + 1))
          case measure => omega
          case rel => exact ⟨i + 1, by omega, by go_num, bel3 (h3 := HB3.out) HBW.out (by exact ⟨rfl, rfl, rfl, Nat.le_refl _, fun _ _ _ => rfl⟩), HF.out⟩
      · have hf : r = true := by
          rw [← HS.out]
          exact sameVs_done (by rw [HN.out]; omega) (by rw [HM.out]; omega)
        subst hf
        clear ka kb
        go_wp2
        go_ret
        exact ⟨rfl, HBW.out⟩
  · have h1 : (((N : Nat) : Int) == ((M : Nat) : Int)) = false := by rw [beq_eq_false_iff_ne]; omega
    have h2 : (((N : Nat) : Int) != ((M : Nat) : Int)) = true := by rw [bne, h1]; rfl
    have hr : r = false := by rw [← HR.out]; exact sameVs_ne (by rw [HN.out, HM.out]; exact hlen)
    subst hr
    go_enter Try.func9, Try.ntmps9
    go_wp2
    go_ret
    exact ⟨rfl, Below.refl _ _⟩
end Tx
end Go.Proofs.Ytggoejghnlgigaa
