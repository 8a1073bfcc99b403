/- One operation in a frame; operations in the order of the text. -/
import Derived.Test.YtjiekjfbllinbaaDoorRk
namespace Go.Proofs.YtjiekjfbllinbaaDoor.Rx
open Go
set_option linter.unusedSectionVars false
set_option linter.unusedVariables false
set_option linter.unusedSimpArgs false
variable [Opq] [Hints]
variable {P : Program} [HintsOk P]

/-- The reader's temporaries are the frame's. -/
structure TR (σ : Rho) (nt : Nat) (T : Tr Value) (a : Act) : Prop where
  size : a.tmps.size = nt
  get : ∀ t, VR σ ((T.get t).getD undef) (a.tmps.getD t undef)
  defers : a.defers = []

theorem TR.mono {σ τ : Rho} (h : σ.le τ) {nt : Nat} {T : Tr Value} {a : Act} (ht : TR σ nt T a) : TR τ nt T a := ⟨ht.size, fun t => (ht.get t).mono h, ht.defers⟩

theorem TR.put {σ : Rho} {nt : Nat} {T T' : Tr Value} {a : Act} (ht : TR σ nt T a) {dst : Option Tmp} {v v' : Value} (hv : VR σ v v') (h50 : nt < 2 ^ 50) (hp : putT nt T dst v = some T') : TR σ nt T' (a.put dst v') := by
  unfold putT at hp
  cases dst with
  | none => simp only [Option.some.injEq] at hp; subst hp; exact ht
  | some d =>
    simp only at hp
    split at hp
    · rename_i hd
      cases hp
      refine ⟨by simp [Act.put, ht.size], fun t => ?_, ht.defers⟩
      by_cases e : t = d
      · subst e
        rw [Tr.get_set_same _ _ _ _ (two50 (Nat.lt_trans hd h50))]
        have : (a.put (some t) v').tmps.getD t undef = v' := by
          have : t < a.tmps.size := by rw [ht.size]; exact hd
          simp [Act.put, Array.getD, this]
        rw [this]
        exact hv
      · rw [Tr.get_set_other _ _ _ _ _ e]
        have : (a.put (some d) v').tmps.getD t undef = a.tmps.getD t undef := by
          simp only [Act.put, Array.getD_eq_getD_getElem?]
          rw [Array.getElem?_setIfInBounds_ne (fun h => e h.symm)]
        rw [this]
        exact ht.get t
    · cases hp

section
variable {σ : Rho} {w W : World} {B nt : Nat} {h h' : H} {T T' : Tr Value} {a : Act} {ops : Array Oper} {F : CallF}

theorem ops_of {l : Array Operand} (ht : ∀ x ∈ l, ∀ t, x = .tmp t → VR σ ((T.get t).getD undef) (a.tmps.getD t undef)) (g : G P B W σ h.heap w) : Ops (evH T h.heap) σ a.eval l := by
  intro x hx v hv
  cases x with
  | tmp t => simp only [evH, Option.some.injEq] at hv; subst hv; exact ht _ hx t rfl
  | const c =>
    simp only [evH] at hv
    split at hv
    · rename_i hf; cases hv; exact flat_self 4 hf
    · cases hv
  | global i =>
    simp only [evH] at hv
    split at hv
    · rename_i c e hb; cases hv; exact .ptr (g.glob _ _ _ hb)
    · cases hv
  | func f =>
    simp only [evH, Option.some.injEq] at hv
    subst hv
    exact .func rfl rfl (fun i v v' h => by simp at h) rfl (fun i v v' h => by simp at h)

/-- Behind an operation, the rest goes on. -/
def Goes (P : Program) (B : Nat) (W : World) (σ : Rho) (h h' : H) (v : Value) (o : Oper) (a : Act) (w : World) : Prop :=
  ∀ (K : Act → World → Prop) (Q : Exit → Act → World → Prop), (∀ v' w' τ, VR τ v v' → G P B W τ h'.heap w' → StepR σ h.heap τ h'.heap → K (a.put o.dst v') w') → o.wp P a w K Q

theorem loudOut_goes {o : Oper} {v : Value} (hl : LoudOut P B W a.eval o σ h.heap w v h'.heap) : Goes P B W σ h h' v o a w := by
  intro K Q hK
  obtain ⟨nx, v', w', τ, h1, h2, h3, h4, h5⟩ := hl
  unfold Oper.wp
  rw [h1]
  rcases h2 with rfl | ⟨rfl, rfl⟩
  · exact hK v' w' τ h3 h4 h5
  · exact hK undef w' τ h3 h4 h5

theorem call_goes {o : Oper} {c : Call} {f : FuncId} {args : List Value} {v : Value} (hF : CallSound P F) (ho : o.op = .call c) (g : G P B W σ h.heap w) (hE : Ops (evH T h.heap) σ a.eval o.op.operands) (ht : target P (evH T h.heap) c = some (f, args))
    (hc : F f args h = some (v, h')) : Goes P B W σ h h' v o a w := by
  intro K Q hK
  rw [ho] at hE
  obtain ⟨args', h1, h2⟩ := target_sound (P := P) (w := w) (ty := o.type) ht hE
  unfold Oper.wp
  have : (execOp a.eval o).run P w = .ok (.enter f args'.toArray) w := by rw [← h1]; simp only [execOp, ho]
  rw [this]
  show Calls P f args'.toArray w _
  refine (hF f args h v h' hc B W σ w args' h2 g).mono ?_
  rintro e w' ⟨v', τ, rfl, hv, hg, hst⟩
  exact hK v' w' τ hv hg hst

theorem loud_goes {o : Oper} {v : Value} (hF : CallSound P F) (g : G P B W σ h.heap w) (hE : Ops (evH T h.heap) σ a.eval o.op.operands) (hl : loud P F o (evH T h.heap) h = some (v, h')) : Goes P B W σ h h' v o a w := by
  unfold loud at hl
  split at hl
  · rename_i t x y ho
    rw [ho] at hE
    split at hl
    · rename_i u j hu hj
      obtain ⟨k, hk, hkk⟩ := map_some_inv hl
      cases hkk
      exact loudOut_goes (store_sound g ho (hE x (by simp [Op.operands]) _ hu) (hE y (by simp [Op.operands]) _ hj) hk)
    · cases hl
  · rename_i t m k x ho
    rw [ho] at hE
    split at hl
    · rename_i u j y hu hj hy
      obtain ⟨q, hq, hkk⟩ := map_some_inv hl
      cases hkk
      exact loudOut_goes (mapPut_sound g (.inl ho) (hE m (by simp [Op.operands]) _ hu) (hE k (by simp [Op.operands]) _ hj) (hE x (by simp [Op.operands]) _ hy) hq)
    · cases hl
  · rename_i t m k x ho
    rw [ho] at hE
    split at hl
    · rename_i u j y hu hj hy
      obtain ⟨q, hq, hkk⟩ := map_some_inv hl
      cases hkk
      exact loudOut_goes (mapPut_sound g (.inr ho) (hE m (by simp [Op.operands]) _ hu) (hE k (by simp [Op.operands]) _ hj) (hE x (by simp [Op.operands]) _ hy) hq)
    · cases hl
  · rename_i c ho
    split at hl
    · rename_i hc
      split at hl
      · rename_i s x hargs
        obtain ⟨callee, as, ts⟩ := c
        simp only at hc hargs
        subst hc
        have has : as = #[s, x] := Array.ext' (by simpa using hargs)
        subst has
        rw [ho] at hE
        split at hl
        · rename_i u j hu hj
          exact loudOut_goes (append_sound g ho (hE s (by simp [Op.operands, Call.operands]) _ hu) (hE x (by simp [Op.operands, Call.operands]) _ hj) hl)
        · cases hl
      · cases hl
    · rename_i hc
      split at hl
      · rename_i m k t hargs ht
        obtain ⟨callee, as, ts⟩ := c
        simp only at hc hargs ht
        subst hc
        have has : as = #[m, k] := Array.ext' (by simpa using hargs)
        subst has
        rw [ho] at hE
        split at hl
        · rename_i u j hu hj
          obtain ⟨q, hq, hkk⟩ := map_some_inv hl
          cases hkk
          exact loudOut_goes (mapDel_sound g ho ht (hE m (by simp [Op.operands, Call.operands]) _ hu) (hE k (by simp [Op.operands, Call.operands]) _ hj) hq)
        · cases hl
      · cases hl
    · split at hl
      · rename_i f args ht
        exact call_goes hF ho g hE ht hl
      · cases hl
  · cases hl

theorem wanted_sound {o : Oper} {b : Bool} (hg : ∀ j q d, o.guard.map (·.1) = some j → ops[j]? = some q → q.dst = some d → VR σ ((T.get d).getD undef) (a.tmps.getD d undef)) (hw : wantedT T ops o = some b) : Region.wanted o (yielded ops a.tmps) = b := by
  unfold wantedT at hw
  unfold Region.wanted
  cases hgd : o.guard with
  | none => simp only [hgd, Option.some.injEq] at hw; subst hw; rfl
  | some jw =>
    obtain ⟨j, want⟩ := jw
    simp only [hgd] at hw
    split at hw
    · rename_i q hq
      split at hw
      · rename_i d hd
        split at hw
        · rename_i c hc
          cases hw
          have := hg j q d (by simp [hgd]) hq hd
          rw [hc] at this
          have h1 := bool_inv this
          have h2 : a.tmps[d]? = some (.bool c) := by
            rw [Array.getD_eq_getD_getElem?] at h1
            cases hx : a.tmps[d]? with
            | none => rw [hx] at h1; simp [undef] at h1
            | some y => rw [hx] at h1; simpa using h1
          simp [yielded, hq, hd, h2]
        · rename_i c hc
          cases hw
          have := hg j q d (by simp [hgd]) hq hd
          rw [hc] at this
          obtain ⟨c', h1, _⟩ := tuple_inv this
          have h2 : a.tmps[d]? = none ∨ a.tmps[d]? = some (.tuple c') := by
            rw [Array.getD_eq_getD_getElem?] at h1
            cases hx : a.tmps[d]? with
            | none => exact .inl rfl
            | some y => rw [hx] at h1; right; simpa using h1
          rcases h2 with h2 | h2 <;> simp [yielded, hq, hd, h2]
        · cases hw
      · cases hw
    · cases hw

/-- One operation: where the frame's temporaries that it looks at are the reader's. -/
theorem one_goes {o : Oper} {i : Nat} (hF : CallSound P F) (g : G P B W σ h.heap w) (hi : ops[i]? = some o)
    (hl : ∀ d ∈ looks ops o, VR σ ((T.get d).getD undef) (a.tmps.getD d undef))
    (h1 : one P F nt ops o T h = some (T', h')) {Q : Exit → Act → World → Prop} {K : Act → World → Prop}
    (hK : ∀ v v' w' τ, putT nt T o.dst v = some T' → VR τ v v' → G P B W τ h'.heap w' → StepR σ h.heap τ h'.heap → K (a.put o.dst v') w') : wpOp P ops Q i K a w := by
  have hE : Ops (evH T h.heap) σ a.eval o.op.operands := ops_of (fun x hx t ht => hl t (by
    subst ht
    unfold looks
    refine List.mem_append.2 (.inl ?_)
    rw [List.mem_filterMap]
    exact ⟨_, by simpa using hx, rfl⟩)) g
  have hG : ∀ j q d, o.guard.map (·.1) = some j → ops[j]? = some q → q.dst = some d → VR σ ((T.get d).getD undef) (a.tmps.getD d undef) := fun j q d hj hq hd => hl d (by
    unfold looks
    refine List.mem_append.2 (.inr ?_)
    cases hgd : o.guard with
    | none => simp [hgd] at hj
    | some jw => obtain ⟨j', w'⟩ := jw; simp [hgd] at hj; subst hj; simp [hq, hd])
  unfold one at h1
  unfold wpOp
  simp only [hi]
  split at h1
  · rename_i hw
    obtain ⟨T2, hp, hkk⟩ := map_some_inv h1
    cases hkk
    rw [wanted_sound hG hw]
    simp only [Bool.false_eq_true, if_false]
    exact hK _ _ _ σ hp undef_self g (StepR.refl _ _)
  · rename_i hw
    rw [wanted_sound hG hw]
    simp only [if_true]
    refine .inl ?_
    split at h1
    · split at h1
      · rename_i v h2 hlo
        obtain ⟨T2, hp, hkk⟩ := map_some_inv h1
        cases hkk
        exact loud_goes hF g hE hlo K Q fun v' w' τ hv hg hst => hK _ _ _ τ hp hv hg hst
      · cases h1
    · split at h1
      · rename_i v he
        obtain ⟨T2, hp, hkk⟩ := map_some_inv h1
        cases hkk
        obtain ⟨v', hr, hv⟩ := eag_sound g hE he
        unfold Oper.wp
        rw [hr]
        exact hK _ _ _ σ hp hv g (StepR.refl _ _)
      · rename_i v ob he
        split at h1
        · rename_i hh
          obtain ⟨T2, hp, hkk⟩ := map_some_inv h1
          cases hkk
          obtain ⟨v', ob', hr, hrel, hm⟩ := eag_sound g hE he
          have hid : h.heap.get h.next = none := by
            cases hq : h.heap.get h.next with
            | none => rfl
            | some _ => rw [hq] at hh; simp at hh
          have hsi : σ h.next = none := by
            cases hq : σ h.next with
            | none => rfl
            | some q => obtain ⟨q', hq'⟩ := g.dom _ q hq; rw [hid] at hq'; cases hq'
          obtain ⟨hv, hob⟩ := hrel (σ.put h.next (w.heap.size, none)) (Rho.le_put hsi) (Rho.put_same _ _ _)
          obtain ⟨g2, st⟩ := g.new (k := none) hid hh.2 hm hob
          unfold Oper.wp
          rw [hr]
          exact hK _ _ _ _ hp hv g2 st
        · cases h1
      · cases h1
  · cases h1

theorem one_sound {o : Oper} {i : Nat} (hF : CallSound P F) (ht : TR σ nt T a) (g : G P B W σ h.heap w) (h50 : nt < 2 ^ 50) (hi : ops[i]? = some o) (h1 : one P F nt ops o T h = some (T', h')) {Q : Exit → Act → World → Prop} {K : Act → World → Prop}
    (hK : ∀ a' w' τ, TR τ nt T' a' → G P B W τ h'.heap w' → StepR σ h.heap τ h'.heap → K a' w') : wpOp P ops Q i K a w :=
  one_goes hF g hi (fun d _ => ht.get d) h1 fun _ _ _ τ hp hv hg hst => hK _ _ τ ((ht.mono hst.le).put hv h50 hp) hg hst

theorem seq_sound (hF : CallSound P F) (h50 : nt < 2 ^ 50) {Q : Exit → Act → World → Prop} {T' : Tr Value} {h' : H} : ∀ (l : List Nat) (os : List Oper) (σ : Rho) (T : Tr Value) (h : H) (a : Act) (w : World), l.map (fun i => ops[i]?) = os.map some → TR σ nt T a → G P B W σ h.heap w →
    seqOps P F nt ops os T h = some (T', h') → (∀ a' w' τ, TR τ nt T' a' → G P B W τ h'.heap w' → StepR σ h.heap τ h'.heap → Q .normal a' w') → wpOps P ops Q l a w
  | [], [], σ, T, h, a, w, _, ht, g, hs, hQ => by
    simp only [seqOps, Option.some.injEq, Prod.mk.injEq] at hs
    obtain ⟨rfl, rfl⟩ := hs
    exact hQ a w σ ht g (StepR.refl _ _)
  | [], _ :: _, _, _, _, _, _, hl, _, _, _, _ => by simp at hl
  | _ :: _, [], _, _, _, _, _, hl, _, _, _, _ => by simp at hl
  | i :: l, o :: os, σ, T, h, a, w, hl, ht, g, hs, hQ => by
    simp only [List.map_cons, List.cons.injEq] at hl
    unfold seqOps at hs
    split at hs
    · rename_i T2 h2 h1
      rw [wpOps_cons]
      refine one_sound hF ht g h50 hl.1 h1 fun a' w' τ ht2 g2 st => ?_
      exact seq_sound hF h50 l os τ T2 h2 a' w' hl.2 ht2 g2 hs fun a3 w3 υ ht3 g3 st3 => hQ a3 w3 υ ht3 g3 (st.trans st3)
    · cases hs
end
end Go.Proofs.YtjiekjfbllinbaaDoor.Rx
