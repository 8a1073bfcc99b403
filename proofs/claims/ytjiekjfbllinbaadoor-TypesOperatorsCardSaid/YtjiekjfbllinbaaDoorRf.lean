/- Quiet operations that look at memory; all of them. -/
import Derived.Test.YtjiekjfbllinbaaDoorRe
import Derived.MapKept
import Derived.Laws.BitsLemmas
import Derived.Laws.BitsAllLaws
import Derived.Laws.Bits64
import Derived.Lib.Strings
namespace Go.Proofs.YtjiekjfbllinbaaDoor.Rx
open Go
set_option linter.unusedSectionVars false
set_option linter.unusedVariables false
set_option linter.unusedSimpArgs false
variable [Opq]
variable {P : Program}

theorem aspure_bind {α β : Type} (s : Sem α) (f : α → Sem β) : aspure P (s >>= f) = (aspure P s).bind fun a => aspure P (f a) := by
  show aspure P (s.bind f) = _
  induction s with
  | pure a => rfl
  | program k ih => exact ih P
  | mark m k ih => exact ih
  | _ => rfl
theorem aspure_pure {α : Type} (a : α) : aspure P (pure a : Sem α) = some a := rfl
theorem aspure_map {α β : Type} (s : Sem α) (f : α → β) : aspure P (f <$> s) = (aspure P s).map f := by
  have : (f <$> s) = s >>= fun a => pure (f a) := rfl
  rw [this, aspure_bind]
  cases aspure P s <;> rfl
theorem aspure_underlying {t : TypeId} {d : TypeDesc} (h : P.underlying t = some d) : aspure P (underlying t) = some d := by
  show aspure P (match P.underlying t with | some d => pure d | none => stuck "no such type") = _
  rw [h]; rfl

theorem bnd_inv {v : Value} {d y n : Nat} (h : bnd (some v) d y = some n) : ∃ k i, v = .int k i ∧ 0 ≤ i ∧ i ≤ (y : Int) ∧ n = i.toNat := by
  cases v with
  | int k i =>
    unfold bnd at h
    simp only at h
    split at h
    · rename_i hc; cases h; exact ⟨k, i, rfl, hc.1, hc.2, rfl⟩
    · cases h
  | _ => cases h

theorem run_sliceBound {k : IntKind} {i : Int} {y : Nat} {c : BoundsCode} (h0 : 0 ≤ i) (h1 : i ≤ (y : Int)) (w : World) : (Instr.sliceBound (.int k i) y c).run P w = .ok i.toNat w := by
  simp [Instr.sliceBound, asIntOf, h0, h1]

theorem sliceBounds_run {len cap c' l h m m' : Nat} {lo hi mx : Option Value} (hm : bnd mx cap cap = some m) (hmx : (mx.isSome && hi.isNone) = false) (hh : bnd hi len m = some h) (hl : bnd lo 0 h = some l)
    (hc : cap ≤ c') (hm' : m' = (if mx.isSome then m else c')) (hmm : m ≤ m') (w : World) : (Instr.sliceBounds true len c' lo hi mx).run P w = .ok (l, h, m') w := by
  cases mx with
  | none =>
    simp only [Option.isSome_none, Bool.false_eq_true, if_false] at hm'
    subst hm'
    cases hi with
    | none =>
      simp only [bnd, Option.some.injEq] at hh
      subst hh
      cases lo with
      | none => simp only [bnd, Option.some.injEq] at hl; subst hl; simp [Instr.sliceBounds]
      | some v => obtain ⟨k, i, rfl, h0, h1, rfl⟩ := bnd_inv hl; simp [Instr.sliceBounds, run_sliceBound h0 h1, Result.andThen]
    | some u =>
      obtain ⟨k, j, rfl, h0, h1, rfl⟩ := bnd_inv hh
      have h1' : j ≤ (m' : Int) := by omega
      cases lo with
      | none => simp only [bnd, Option.some.injEq] at hl; subst hl; simp [Instr.sliceBounds, run_sliceBound h0 h1', Result.andThen]
      | some v => obtain ⟨k, i, rfl, h2, h3, rfl⟩ := bnd_inv hl; simp [Instr.sliceBounds, run_sliceBound h0 h1', run_sliceBound h2 h3, Result.andThen]
  | some q =>
    simp only [Option.isSome_some, if_true] at hm'
    subst hm'
    obtain ⟨k', j', rfl, h4, h5, rfl⟩ := bnd_inv hm
    have h5' : j' ≤ (c' : Int) := by omega
    cases hi with
    | none => simp at hmx
    | some u =>
      obtain ⟨k, j, rfl, h0, h1, rfl⟩ := bnd_inv hh
      cases lo with
      | none => simp only [bnd, Option.some.injEq] at hl; subst hl; simp [Instr.sliceBounds, run_sliceBound h4 h5', run_sliceBound h0 h1, Result.andThen]
      | some v => obtain ⟨k, i, rfl, h2, h3, rfl⟩ := bnd_inv hl; simp [Instr.sliceBounds, run_sliceBound h4 h5', run_sliceBound h0 h1, run_sliceBound h2 h3, Result.andThen]

section
variable {E : Ev} {σ : Rho} {ρ : Operand → Value} {w W : World} {id B : Nat} {h : Tr AObj}

theorem optFlat_eq {x : Option Operand} {y : Option Value} (hy : optFlat E x = some y) (hE : ∀ z, x = some z → ∀ v, E z = some v → VR σ v (ρ z)) : x.map ρ = y := by
  cases x with
  | none => simp [optFlat] at hy; subst hy; rfl
  | some z =>
    unfold optFlat at hy
    cases hz : E z with
    | none => simp [hz] at hy
    | some v =>
      simp only [hz] at hy
      split at hy
      · rename_i hf
        cases hy
        simp [flat_eq 1 (hE z rfl v hz) hf]
      · cases hy

theorem slice_sound {o : Oper} {t : TypeId} {x : Operand} {lo hi mx : Option Operand} {lo' hi' mx' : Option Value} {b off len cap : Nat} {gr : Bool} {v : Value} (ho : o.op = .slice t x lo hi mx)
    (hx : VR σ (.slice (some ⟨b, off, none⟩) len cap) (ρ x)) (hlo : lo.map ρ = lo') (hhi : hi.map ρ = hi') (hmx : mx.map ρ = mx')
    (hg : ∀ b' K, σ b = some (b', some K) → gr = true) (hv : sliceOp P t b off len cap gr lo' hi' mx' = some v) : EffOut P ρ o σ w id (.val v) := by
  unfold sliceOp at hv
  split at hv
  · rename_i e hu
    split at hv
    · rename_i size m hsz hm
      split at hv
      · cases hv
      rename_i hmh
      split at hv
      · rename_i h' hh
        split at hv
        · rename_i l hl
          split at hv
          · cases hv
          · rename_i hc
            obtain ⟨b', c', k, hr, hs, h1, h2⟩ := slice_inv hx
            have hu' : (underlying t).run P w = .ok (.slice e) w := run_underlying hu w
            have hmh' : (mx'.isSome && hi'.isNone) = false := by
              cases hq : (mx'.isSome && hi'.isNone) with
              | false => rfl
              | true => exact absurd hq hmh
            cases k with
            | none =>
              have := h1 rfl
              subst this
              have hb' := sliceBounds_run (P := P) (m' := m) hm hmh' hh hl (Nat.le_refl _) (by cases mx' with | none => simp [bnd] at hm ⊢; exact hm.symm | some _ => simp) (Nat.le_refl _) w
              have hrun : (execOp ρ o).run P w = .ok (.value (.slice (if m = l then some ⟨b', off, none⟩ else some ⟨b', off + l * size, none⟩) (h' - l) (m - l))) w := by
                simp only [execOp, ho, hr, hlo, hhi, hmx, Sem.run_bind, Instr.sliceAt, hu', Result.andThen, Instr.slice, hb', run_sizeOf hsz, Sem.run_pure]
                split <;> simp [cell_add]
              split at hv
              · split at hv
                · rename_i h0
                  cases hv
                  rw [h0] at hrun
                  by_cases hml : m = l
                  · rw [if_pos hml] at hrun; exact val_out hrun .lost
                  · rw [if_neg hml] at hrun; exact val_out hrun .lost
                · cases hv
              · cases hv
                by_cases hml : m = l
                · rw [if_pos hml] at hrun ⊢; exact val_out hrun (.slice hs)
                · rw [if_neg hml] at hrun ⊢; exact val_out hrun (.slice hs)
            | some K =>
              obtain ⟨h3, h4⟩ := h2 K rfl
              have hgr := hg _ _ hs
              subst hgr
              simp only [Bool.true_and, Bool.or_eq_true, beq_iff_eq, decide_eq_true_eq, not_or] at hc hv
              obtain ⟨⟨hmx0, hch⟩, hz⟩ := hc
              cases mx' with
              | some _ => simp at hmx0
              | none =>
                simp only [bnd, Option.some.injEq] at hm
                subst hm
                have hb' := sliceBounds_run (P := P) (mx := none) (m' := c') (by rfl) hmh' hh hl h3 (by simp) h3 w
                have hrun : (execOp ρ o).run P w = .ok (.value (.slice (if c' = l then some ⟨b', off, none⟩ else some ⟨b', off + l * size, none⟩) (h' - l) (c' - l))) w := by
                  simp only [execOp, ho, hr, hlo, hhi, hmx, Sem.run_bind, Instr.sliceAt, hu', Result.andThen, Instr.slice, hb', run_sizeOf hsz, Sem.run_pure]
                  split <;> simp [cell_add]
                split at hv
                · split at hv
                  · rename_i h0
                    cases hv
                    rw [h0] at hrun
                    by_cases hml : c' = l
                    · rw [if_pos hml] at hrun; exact val_out hrun .lost
                    · rw [if_neg hml] at hrun; exact val_out hrun .lost
                  · cases hv
                · rename_i hcl
                  cases hv
                  have hne : ¬ c' = l := by omega
                  have hne2 : ¬ cap = l := by omega
                  rw [if_neg hne] at hrun
                  rw [if_neg hne2]
                  refine val_out hrun (.grow hs (by omega) fun h0 => ?_)
                  have h5 : off = 0 := by omega
                  have h6 : l * size = 0 := by omega
                  have h7 : l = 0 := by
                    rcases Nat.mul_eq_zero.1 h6 with h | h
                    · exact h
                    · exact absurd h hz
                  have := h4 h5
                  omega
        · cases hv
      · cases hv
    · cases hv
  · cases hv

theorem load_sound {o : Oper} {t : TypeId} {a : Operand} {b off : Nat} {c : List Value} {v : Value} (g : G P B W σ h w) (ho : o.op = .load t a) (ha : VR σ (.pointer (some ⟨b, off, none⟩)) (ρ a))
    (hb : (∃ e gr, h.get b = some (.cells c e gr)) ∨ ∃ e, h.get b = some (.glob c e)) (hv : readAt P c off t = some v) : EffOut P ρ o σ w id (.val v) := by
  obtain ⟨b', k, hr, hs⟩ := ptr_inv ha
  obtain ⟨c', e, fr, hw, hl⟩ := g.row hs hb
  obtain ⟨v', h1, h2⟩ := run_readAt (P := P) hw hl hv
  refine val_out (v' := v') ?_ h2
  simp [execOp, ho, hr, Instr.loadAt, Instr.sureAddr, h1, Result.andThen]

/-! ### Maps -/

theorem ER.keys {l : List (Value × Value)} {l' : List MapEntry} (h : ER σ l l') : l'.map (·.key) = l.map (·.1) := by
  induction h with
  | nil => rfl
  | cons hk _ _ ih => simp [ih, hk]
theorem ER.some {l : List (Value × Value)} {l' : List MapEntry} (h : ER σ l l') : ∀ {i : Nat} {e : Value × Value}, l[i]? = some e → ∃ e', l'[i]? = some e' ∧ e'.key = e.1 ∧ VR σ e.2 e'.val := by
  induction h with
  | nil => intro i e h; simp at h
  | cons hk hv _ ih =>
    intro i e h
    cases i with
    | zero => simp at h; subst h; exact ⟨_, rfl, hk, hv⟩
    | succ i => exact ih (by simpa using h)

theorem findNow_keys (d : TypeDesc) (k : Value) : ∀ (l m : List MapEntry) (i : Nat), l.map (·.key) = m.map (·.key) →
    (Instr.findNow d k l i = none ∧ Instr.findNow d k m i = none) ∨ (Instr.findNow d k l i = some none ∧ Instr.findNow d k m i = some none) ∨
      ∃ j x y, Instr.findNow d k l i = some (some (i + j, x)) ∧ Instr.findNow d k m i = some (some (i + j, y)) ∧ ∃ e, m[j]? = some e ∧ e.val = y
  | [], [], i, _ => .inr (.inl ⟨rfl, rfl⟩)
  | [], _ :: _, i, h => by simp at h
  | _ :: _, [], i, h => by simp at h
  | x :: l, y :: m, i, h => by
    simp only [List.map_cons, List.cons.injEq] at h
    obtain ⟨hk, ht⟩ := h
    unfold Instr.findNow
    rw [hk]
    cases hs : Instr.sameNow d k y.key with
    | none => exact .inl ⟨rfl, rfl⟩
    | some b =>
      cases b with
      | true => exact .inr (.inr ⟨0, _, _, rfl, rfl, y, rfl, rfl⟩)
      | false =>
        rcases findNow_keys d k l m (i + 1) ht with h1 | h1 | ⟨j, x', y', h1, h2, e, h3, h4⟩
        · exact .inl h1
        · exact .inr (.inl h1)
        · refine .inr (.inr ⟨j + 1, x', y', ?_, ?_, e, by simpa using h3, h4⟩)
          · rw [show i + (j + 1) = i + 1 + j by omega]; exact h1
          · rw [show i + (j + 1) = i + 1 + j by omega]; exact h2

theorem findAsking_keys (kt : TypeId) (k : Value) : ∀ (l m : List MapEntry) (i : Nat), l.map (·.key) = m.map (·.key) →
    (aspure P (Instr.findAsking kt k l i) = none) ∨ (aspure P (Instr.findAsking kt k l i) = some none ∧ aspure P (Instr.findAsking kt k m i) = some none) ∨
      ∃ j x y, aspure P (Instr.findAsking kt k l i) = some (some (i + j, x)) ∧ aspure P (Instr.findAsking kt k m i) = some (some (i + j, y)) ∧ ∃ e, m[j]? = some e ∧ e.val = y
  | [], [], i, _ => .inr (.inl ⟨rfl, rfl⟩)
  | [], _ :: _, i, h => by simp at h
  | _ :: _, [], i, h => by simp at h
  | x :: l, y :: m, i, h => by
    simp only [List.map_cons, List.cons.injEq] at h
    obtain ⟨hk, ht⟩ := h
    unfold Instr.findAsking
    rw [aspure_bind, aspure_bind, hk]
    cases hs : aspure P (Op.equal kt k y.key) with
    | none => exact .inl rfl
    | some b =>
      cases b with
      | true => exact .inr (.inr ⟨0, _, _, rfl, rfl, y, rfl, rfl⟩)
      | false =>
        simp only [Option.bind_some, Bool.false_eq_true, if_false]
        rcases findAsking_keys kt k l m (i + 1) ht with h1 | h1 | ⟨j, x', y', h1, h2, e, h3, h4⟩
        · exact .inl h1
        · exact .inr (.inl h1)
        · refine .inr (.inr ⟨j + 1, x', y', ?_, ?_, e, by simpa using h3, h4⟩)
          · rw [show i + (j + 1) = i + 1 + j by omega]; exact h1
          · rw [show i + (j + 1) = i + 1 + j by omega]; exact h2

theorem findAt_sound {kt : TypeId} {k : Value} {es : List (Value × Value)} {es' : List MapEntry} (he : ER σ es es') {r : Option Nat} (hf : findAt P kt k es = some r) (w : World) :
    (r = none ∧ (Instr.findKey kt k es').run P w = .ok none w) ∨ ∃ j e, r = some j ∧ es'[j]? = some e ∧ (Instr.findKey kt k es').run P w = .ok (some (j, e.val)) w := by
  unfold findAt at hf
  have hk : (es.map fun e => ({ key := e.1, val := .tuple #[], born := 0 } : MapEntry)).map (·.key) = es'.map (·.key) := by
    rw [ER.keys he]; simp
  revert hf hk
  generalize (es.map fun e => ({ key := e.1, val := .tuple #[], born := 0 } : MapEntry)) = l
  intro hf hk
  unfold Instr.findKey at hf
  rw [aspure_bind] at hf
  cases hd : aspure P (underlying kt) with
  | none => rw [hd] at hf; cases hf
  | some d =>
    rw [hd] at hf
    simp only [Option.bind_some] at hf
    have hd' := run_aspure P hd w
    rcases findNow_keys d k l es' 0 hk with ⟨h1, h2⟩ | ⟨h1, h2⟩ | ⟨j, x, y, h1, h2, e, h3, h4⟩
    · rw [h1] at hf
      simp only at hf
      rcases findAsking_keys (P := P) kt k l es' 0 hk with h3 | ⟨h3, h4⟩ | ⟨j, x, y, h3, h4, e, h5, h6⟩
      · rw [h3] at hf; cases hf
      · rw [h3] at hf
        cases hf
        exact .inl ⟨rfl, by simp [Instr.findKey, hd', Result.andThen, h2, run_aspure P h4 w]⟩
      · rw [h3] at hf
        cases hf
        simp only [Nat.zero_add] at *
        exact .inr ⟨j, e, rfl, h5, by simp [Instr.findKey, hd', Result.andThen, h2, run_aspure P h4 w, h6]⟩
    · rw [h1] at hf
      simp only [aspure_pure] at hf
      cases hf
      exact .inl ⟨rfl, by simp [Instr.findKey, hd', Result.andThen, h2]⟩
    · rw [h1] at hf
      simp only [aspure_pure] at hf
      cases hf
      simp only [Nat.zero_add] at *
      exact .inr ⟨j, e, rfl, h3, by simp [Instr.findKey, hd', Result.andThen, h2, h4]⟩

theorem keyOk_run {emp : Bool} {kt : TypeId} {k : Value} (h : keyOk P emp kt k = true) (w : World) : flat 4 k = true ∧ (Instr.checkKey emp 10000 kt k).run P w = .ok () w := by
  unfold keyOk at h
  simp only [Bool.and_eq_true] at h
  refine ⟨h.1, ?_⟩
  cases hc : aspure P (Instr.checkKey emp 10000 kt k) with
  | none => rw [hc] at h; simp at h
  | some u => exact run_aspure P hc w

theorem lookup_sound {o : Oper} {t : TypeId} {x ix : Operand} {ok : Bool} {r : Nat} {k v : Value} (g : G P B W σ h w) (ho : o.op = .lookup t x ix ok) (hx : VR σ (.map (some r)) (ρ x)) (hk : VR σ k (ρ ix))
    (hv : lookupAt P t h r k ok = some v) : EffOut P ρ o σ w id (.val v) := by
  unfold lookupAt at hv
  split at hv
  · rename_i kt et hu
    split at hv
    · rename_i es hb
      split at hv
      · rename_i hkey
        obtain ⟨r', kk, hr, hs⟩ := map_inv hx
        obtain ⟨o', h1, es', cl, h2, h3⟩ := g.obj _ _ _ _ hs hb trivial
        subst h2
        obtain ⟨hkf, hck⟩ := keyOk_run hkey w
        have hix := flat_eq 4 hk hkf
        have hemp : es'.isEmpty = es.isEmpty := by
          have := h3.length
          cases es <;> cases hq : es' with | mk l => cases l <;> simp_all
        rw [← hemp] at hck
        have hu' : (underlying t).run P w = .ok (.map kt et) w := run_underlying hu w
        have hget := MapKept.run_getObj_map (P := P) h1
        split at hv
        · rename_i i hf
          rcases findAt_sound (P := P) h3 hf w with ⟨h4, _⟩ | ⟨j, e, h4, h5, h6⟩
          · cases h4
          · cases h4
            split at hv
            · rename_i e0 he0
              cases hv
              obtain ⟨e', h7, _, h9⟩ := h3.some he0
              rw [h5] at h7
              cases h7
              refine val_out (v' := if ok then .tuple #[e.val, .bool true] else e.val) ?_ ?_
              · simp [execOp, ho, hr, hix, Instr.lookup, hu', hget, hck, h6, Result.andThen]
              · cases ok
                · exact h9
                · exact .tuple' (AR.of (.cons h9 (.cons (.flat0 _ rfl) .nil)))
            · cases hv
        · rename_i hf
          rcases findAt_sound (P := P) h3 hf w with ⟨_, h6⟩ | ⟨j, e, h4, _⟩
          · split at hv
            · rename_i z hz
              cases hv
              refine val_out (v' := if ok then .tuple #[z, .bool false] else z) ?_ ?_
              · simp [execOp, ho, hr, hix, Instr.lookup, hu', hget, hck, h6, run_zeroValue hz, Result.andThen]
              · cases ok
                · exact zero_flat hz
                · exact .tuple' (AR.of (.cons (zero_flat hz) (.cons (.flat0 _ rfl) .nil)))
            · cases hv
          · cases h4
        · cases hv
      · cases hv
    · cases hv
  · cases hv

theorem len_slice {o : Oper} {args : Array Operand} {ts : Array TypeId} {t e : TypeId} {x : Operand} {b : Addr} {n c : Nat} (ho : o.op = .call { callee := .builtin .len, args, argTypes := ts }) (ht : ts[0]? = some t) (hx : args[0]? = some x)
    (hu : P.underlying t = some (.slice e)) (hv : VR σ (.slice (some b) n c) (ρ x)) : EffOut P ρ o σ w id (.val (goInt n)) := by
  refine val_out (v' := goInt n) ?_ (.flat0 _ rfl)
  have hu' : (underlying t).run P w = .ok (.slice e) w := run_underlying hu w
  have hx' : (args.map ρ)[0]? = some (ρ x) := by simp [hx]
  have : ∃ a' c', ρ x = .slice a' n c' := by
    generalize ρ x = r at hv
    cases hv <;> exact ⟨_, _, rfl⟩
  obtain ⟨a', c', hr⟩ := this
  rw [hr] at hx'
  simp only [execOp, ho, resolve, invoke, Sem.run_bind, Sem.run_pure, Result.andThen, builtin, Builtin.len_, ht, hx', hu']

theorem len_map {o : Oper} {args : Array Operand} {ts : Array TypeId} {t kt et : TypeId} {x : Operand} {r : Nat} {es : List (Value × Value)} (g : G P B W σ h w) (ho : o.op = .call { callee := .builtin .len, args, argTypes := ts })
    (ht : ts[0]? = some t) (hx : args[0]? = some x) (hu : P.underlying t = some (.map kt et)) (hv : VR σ (.map (some r)) (ρ x)) (hb : h.get r = some (.map es)) : EffOut P ρ o σ w id (.val (goInt es.length)) := by
  refine val_out (v' := goInt es.length) ?_ (.flat0 _ rfl)
  have hu' : (underlying t).run P w = .ok (.map kt et) w := run_underlying hu w
  obtain ⟨r', kk, hr, hs⟩ := map_inv hv
  obtain ⟨o', h1, es', cl, h2, h3⟩ := g.obj _ _ _ _ hs hb trivial
  subst h2
  have hx' : (args.map ρ)[0]? = some (.map (some r')) := by simp [hx, hr]
  have hget := MapKept.run_getObj_map (P := P) h1
  have hl : es'.size = es.length := by simpa using h3.length.symm
  simp only [execOp, ho, resolve, invoke, Sem.run_bind, Sem.run_pure, Result.andThen, builtin, Builtin.len_, ht, hx', hu', hget, hl]

theorem nilKind_rel {v v' : Value} {x : Nat × Bool} (h : VR σ v v') (hk : nilKind v = some x) : nilKind v' = some x := by
  cases h <;> first | exact hk | cases hk
theorem nilEq_rel {d : TypeDesc} {u v u' v' : Value} {r : Bool} (h : nilEq d u v = some r) (hu : VR σ u u') (hv : VR σ v v') : nilEq d u' v' = some r := by
  unfold nilEq at *
  cases h1 : nilKind u with
  | none => cases hd : nilClass d <;> simp [h1, hd] at h
  | some x =>
    cases h2 : nilKind v with
    | none => cases hd : nilClass d <;> simp [h1, h2, hd] at h
    | some y => rw [h1, h2] at h; rw [nilKind_rel hu h1, nilKind_rel hv h2]; exact h

theorem kind0 {v : Value} {n : Bool} (h : nilKind v = some (0, n)) : ∃ a, v = .pointer a ∧ n = a.isNone := by cases v <;> simp [nilKind] at h; exact ⟨_, rfl, h.symm⟩
theorem kind1 {v : Value} {n : Bool} (h : nilKind v = some (1, n)) : ∃ a l c, v = .slice a l c ∧ n = a.isNone := by cases v <;> simp [nilKind] at h; exact ⟨_, _, _, rfl, h.symm⟩
theorem kind2 {v : Value} {n : Bool} (h : nilKind v = some (2, n)) : ∃ a, v = .map a ∧ n = a.isNone := by cases v <;> simp [nilKind] at h; exact ⟨_, rfl, h.symm⟩
theorem kind3 {v : Value} {n : Bool} (h : nilKind v = some (3, n)) : (∃ f a b, v = .func f a b ∧ n = false) ∨ v = .nilFunc ∧ n = true := by
  cases v <;> simp [nilKind] at h
  · exact .inl ⟨_, _, _, rfl, h⟩
  · exact .inr ⟨rfl, h⟩
theorem kind4 {v : Value} {n : Bool} (h : nilKind v = some (4, n)) : (∃ t u, v = .iface t u ∧ n = false) ∨ v = .nilIface ∧ n = true := by
  cases v <;> simp [nilKind] at h
  · exact .inl ⟨_, _, rfl, h⟩
  · exact .inr ⟨rfl, h⟩

theorem nilEq_equal {t : TypeId} {d : TypeDesc} {u v : Value} {r : Bool} (hu : P.underlying t = some d) (h : nilEq d u v = some r) (w : World) :
    (Op.equal t u v).run P w = .ok r w ∧ (∀ op x y, eqGuard op t x y u v = pure ()) ∧ (∀ op, op = .eql ∨ op = .neq → binOp op t u v = (if op = .eql then (do pure (.bool (← Op.equal t u v))) else (do pure (.bool (!(← Op.equal t u v)))))) := by
  have hu' := run_underlying hu w
  have hn : (∀ n, (Op.equalIn (n + 1) t u v).run P w = .ok r w) → (Op.equal t u v).run P w = .ok r w := fun h => h 9999
  unfold nilEq at h
  split at h
  · rename_i c c1 n1 c2 n2 hc h1 h2
    split at h
    · rename_i hh
      obtain ⟨rfl, rfl, h3, h4⟩ := hh
      cases h
      cases d <;> simp only [nilClass, Option.some.injEq, reduceCtorEq] at hc <;> subst hc
      · obtain ⟨a, rfl, rfl⟩ := kind0 h1
        obtain ⟨b, rfl, rfl⟩ := kind0 h2
        refine ⟨?_, fun op x y => eqGuard_at_pointer .., fun op ho => by rcases ho with rfl | rfl <;> rfl⟩
        cases a <;> cases b <;> first | (exfalso; simp at h3; done) | exact hn fun n => by simp [Op.equalIn, hu', Result.andThen]
      · obtain ⟨a, l, c, rfl, rfl⟩ := kind1 h1
        obtain ⟨b, l', c', rfl, rfl⟩ := kind1 h2
        refine ⟨?_, fun op x y => eqGuard_at_slice .., fun op ho => by rcases ho with rfl | rfl <;> rfl⟩
        cases a <;> cases b <;> first | (exfalso; simp at h3; done) | exact hn fun n => by simp [Op.equalIn, hu', Result.andThen]
      · obtain ⟨a, rfl, rfl⟩ := kind2 h1
        obtain ⟨b, rfl, rfl⟩ := kind2 h2
        refine ⟨?_, fun op x y => eqGuard_at_map .., fun op ho => by rcases ho with rfl | rfl <;> rfl⟩
        cases a <;> cases b <;> first | (exfalso; simp at h3; done) | exact hn fun n => by simp [Op.equalIn, hu', Result.andThen]
      · rcases kind3 h1 with ⟨f, a, b, rfl, rfl⟩ | ⟨rfl, rfl⟩ <;> rcases kind3 h2 with ⟨f', a', b', rfl, rfl⟩ | ⟨rfl, rfl⟩
        · simp at h3
        · exact ⟨hn fun n => by simp [Op.equalIn, hu', Result.andThen], fun op x y => eqGuard_at_func .., fun op ho => by rcases ho with rfl | rfl <;> rfl⟩
        · exact ⟨hn fun n => by simp [Op.equalIn, hu', Result.andThen], fun op x y => eqGuard_at_nilFunc .., fun op ho => by rcases ho with rfl | rfl <;> rfl⟩
        · exact ⟨hn fun n => by simp [Op.equalIn, hu', Result.andThen], fun op x y => eqGuard_at_nilFunc .., fun op ho => by rcases ho with rfl | rfl <;> rfl⟩
      · rcases kind4 h1 with ⟨f, a, rfl, rfl⟩ | ⟨rfl, rfl⟩ <;> rcases kind4 h2 with ⟨f', a', rfl, rfl⟩ | ⟨rfl, rfl⟩
        · simp at h3
        · exact ⟨hn fun n => by simp [Op.equalIn, hu', Result.andThen], fun op x y => eqGuard_at_iface .., fun op ho => by rcases ho with rfl | rfl <;> rfl⟩
        · exact ⟨hn fun n => by simp [Op.equalIn, hu', Result.andThen], fun op x y => eqGuard_nil_iface .., fun op ho => by rcases ho with rfl | rfl <;> rfl⟩
        · simp at h4
    · cases h
  · cases h

theorem eql_sound {o : Oper} {t t2 : TypeId} {x y : Operand} {d : TypeDesc} {u v : Value} {r : Bool} (ho : o.op = .binOp .eql t x y t2) (hd : P.underlying t = some d) (h : nilEq d u v = some r) (hu : VR σ u (ρ x)) (hv : VR σ v (ρ y)) :
    EffOut P ρ o σ w id (.val (.bool r)) := by
  obtain ⟨h1, h2, h3⟩ := nilEq_equal hd (nilEq_rel h hu hv) w
  refine val_out (v' := .bool r) ?_ (.flat0 _ rfl)
  simp [execOp, ho, h2, h3, h1, Result.andThen]
theorem neq_sound {o : Oper} {t t2 : TypeId} {x y : Operand} {d : TypeDesc} {u v : Value} {r : Bool} (ho : o.op = .binOp .neq t x y t2) (hd : P.underlying t = some d) (h : nilEq d u v = some r) (hu : VR σ u (ρ x)) (hv : VR σ v (ρ y)) :
    EffOut P ρ o σ w id (.val (.bool (!r))) := by
  obtain ⟨h1, h2, h3⟩ := nilEq_equal hd (nilEq_rel h hu hv) w
  refine val_out (v' := .bool (!r)) ?_ (.flat0 _ rfl)
  simp [execOp, ho, h2, h3, h1, Result.andThen]
end

/-! ### The shorter ways -/

theorem wrap_i8 (n : Int) : IntKind.i8.wrap n = (n + 128) % 256 - 128 := by
  simp [IntKind.wrap, IntKind.bits, IntKind.signed]
  split <;> omega
theorem wrap_i16 (n : Int) : IntKind.i16.wrap n = (n + 32768) % 65536 - 32768 := by
  simp [IntKind.wrap, IntKind.bits, IntKind.signed]
  split <;> omega
theorem wrap_fit (k : IntKind) (n : Int) (h : fitK k n = true) : k.wrap n = n := by
  have hb : -(loK k : Int) ≤ n ∧ n ≤ (hiK k : Int) := by
    cases n with
    | ofNat m => have h1 : m ≤ hiK k := Nat.le_of_ble_eq_true h; exact ⟨by have := Int.natCast_nonneg m; show -(loK k : Int) ≤ (m : Int); omega, by show (m : Int) ≤ _; omega⟩
    | negSucc m => have h1 : m + 1 ≤ loK k := Nat.le_of_ble_eq_true h; exact ⟨by rw [Int.negSucc_eq]; omega, by rw [Int.negSucc_eq]; omega⟩
  cases k <;> simp only [hiK, loK] at hb
  · rw [wrap_i8]; omega
  · rw [wrap_i16]; omega
  · rw [IntKind.wrap_i32]; omega
  · rw [IntKind.wrap_i64]; omega
  · rw [IntKind.wrap_u8]; omega
  · rw [IntKind.wrap_u16]; omega
  · rw [IntKind.wrap_u32]; omega
  · rw [IntKind.wrap_u64]; omega

theorem bytesEq_iff : ∀ (l m : List UInt8), bytesEq l m = (l == m)
  | [], [] => rfl
  | [], _ :: _ => rfl
  | _ :: _, [] => rfl
  | a :: l, b :: m => by
    unfold bytesEq
    rw [List.cons_beq_cons]
    cases hb : Nat.beq a.toNat b.toNat with
    | true =>
      have : a = b := UInt8.toNat_inj.1 (Nat.eq_of_beq_eq_true hb)
      subst this
      simp [bytesEq_iff l m]
    | false =>
      have : a ≠ b := fun e => by subst e; simp at hb
      simp [this]

theorem fastBin_sound {op : BinOp} {u v r : Value} (h : fastBin op u v = some r) : flat0 r = true ∧ flat0 u = true ∧ flat0 v = true ∧ ∀ t x y (w : World), (do eqGuard op t x y u v; binOp op t u v : Sem Value).run P w = .ok r w := by
  unfold fastBin at h
  cases u with
  | int k a =>
    simp only at h
    cases v with
    | int j b =>
      simp only at h
      split at h
      · rename_i hk
        have hk := of_decide_eq_true hk
        subst hk
        unfold fastInt at h
        cases op <;> simp only at h <;> (try (cases h; done))
        case add =>
          split at h
          · rename_i hf; cases h; exact ⟨rfl, rfl, rfl, fun t x y w => by simp [eqGuard_at_int, binOp, Op.intArith, wrap_fit k _ hf]⟩
          · cases h
        case sub =>
          split at h
          · rename_i hf; cases h; exact ⟨rfl, rfl, rfl, fun t x y w => by simp [eqGuard_at_int, binOp, Op.intArith, wrap_fit k _ hf]⟩
          · cases h
        case eql => cases h; exact ⟨rfl, rfl, rfl, fun t x y w => by simp [eqGuard_at_int, binOp, Op.intCmp]; rfl⟩
        case neq => cases h; exact ⟨rfl, rfl, rfl, fun t x y w => by simp [eqGuard_at_int, binOp, Op.intCmp]; rfl⟩
        all_goals (cases h; exact ⟨rfl, rfl, rfl, fun t x y w => by simp [eqGuard_at_int, binOp, Op.intCmp]⟩)
      · cases h
    | _ => cases h
  | string a =>
    simp only at h
    cases v with
    | string b =>
      simp only at h
      unfold fastStr at h
      cases op <;> simp only at h <;> (try (cases h; done))
      case eql => cases h; exact ⟨rfl, rfl, rfl, fun t x y w => by simp [eqGuard_at_string, binOp, Op.stringOp, Lib.toList_data, bytesEq_iff]⟩
      case neq => cases h; exact ⟨rfl, rfl, rfl, fun t x y w => by simp [eqGuard_at_string, binOp, Op.stringOp, Lib.toList_data, bytesEq_iff]⟩
    | _ => cases h
  | _ => cases h

section
variable {E : Ev} {σ : Rho} {ρ : Operand → Value} {w W : World} {id B : Nat} {h : Tr AObj}
theorem bin_fast {o : Oper} {op : BinOp} {t t2 : TypeId} {x y : Operand} {u v r : Value} (ho : o.op = .binOp op t x y t2) (hx : VR σ u (ρ x)) (hy : VR σ v (ρ y)) (h : fastBin op u v = some r) : EffOut P ρ o σ w id (.val r) := by
  obtain ⟨h1, h2, h3, h4⟩ := fastBin_sound (P := P) h
  have ex := flat0_eq hx h2
  have ey := flat0_eq hy h3
  refine val_out (v' := r) ?_ (.flat0 _ h1)
  have := h4 t x y w
  simp only [execOp, ho, ex, ey, Sem.run_bind] at this ⊢
  rw [this]; rfl
theorem un_fast {o : Oper} {t : TypeId} {x : Operand} {b : Bool} (ho : o.op = .unOp .not t x) (hx : VR σ (.bool b) (ρ x)) : EffOut P ρ o σ w id (.val (.bool (!b))) := by
  have ex := bool_inv hx
  refine val_out (v' := .bool (!b)) ?_ (.flat0 _ rfl)
  simp [execOp, ho, ex, Op.unary]
theorem conv_fast {o : Oper} {src dst : TypeId} {x : Operand} {k j i : IntKind} {n : Int} (ho : o.op = .convert src dst x) (hx : VR σ (.int j n) (ρ x)) (hs : P.underlying src = some (.int i)) (hd : P.underlying dst = some (.int k)) (hf : fitK k n = true) : EffOut P ρ o σ w id (.val (.int k n)) := by
  have ex := int_inv hx
  refine val_out (v' := .int k n) ?_ (.flat0 _ rfl)
  have e1 := run_underlying (P := P) hs w
  have e2 := run_underlying (P := P) hd w
  simp [execOp, ho, ex, convert, e1, e2, Conv.intToInt, wrap_fit k n hf, Result.andThen]
end

/-- What is known of operators on values that stand for others is so. -/
class HintsOk (P : Program) [Opq] [Hints] : Prop where
  ok : ∀ (σ : Rho) (op : BinOp) (t : TypeId) (u v r : Value), Hints.hint op t u v = some r → ∀ u' v', VR σ u u' → VR σ v v' →
    ∃ r', (∀ (x y : Operand) (w : World), (do eqGuard op t x y u' v'; binOp op t u' v' : Sem Value).run P w = .ok r' w) ∧ VR σ r r'
end Go.Proofs.YtjiekjfbllinbaaDoor.Rx
