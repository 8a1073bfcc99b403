/- Code and calls: what the reader answers is what the model answers. -/
import Derived.Test.YtjiekjfbllinbaaDoorRp
namespace Go.Proofs.YtjiekjfbllinbaaDoor.Rx
open Go
set_option linter.unusedSectionVars false
set_option linter.unusedVariables false
set_option linter.unusedSimpArgs false
variable [Opq] [Hints]
variable {P : Program} [HintsOk P] {O : CallF} {B nt : Nat} {W w : World} {σ : Rho} {T : Tr Value} {a : Act}

/-- What the reader's run of a piece of code comes to. -/
def RunSound (P : Program) (O : CallF) (f : Nat) : Prop := ∀ (nt : Nat) (c : Code) (T : Tr Value) (h : H) (ex : Ex) (T' : Tr Value) (h' : H) (B : Nat) (W : World) (σ : Rho) (a : Act) (w : World) (Q : Exit → Act → World → Prop),
  nt < 2 ^ 50 → run P O f nt c T h = some (ex, T', h') → TR σ nt T a → G P B W σ h.heap w →
  (∀ a' w' τ, TR τ nt T' a' → G P B W τ h'.heap w' → StepR σ h.heap τ h'.heap → Q (exOf ex) a' w') → c.wp P Q a w

theorem argsT_get : ∀ (l : List Value) (i : Nat) (T : Tr Value), i + l.length < 2 ^ 50 → ∀ t, (argsT l i T).get t = if i ≤ t ∧ t < i + l.length then l[t - i]? else T.get t
  | [], i, T, _, t => by
    rw [if_neg (by simp only [List.length_nil]; omega)]
    rfl
  | v :: l, i, T, h, t => by
    simp only [List.length_cons] at h
    unfold argsT
    rw [argsT_get l (i + 1) _ (by omega) t]
    simp only [List.length_cons]
    by_cases h1 : i + 1 ≤ t ∧ t < i + 1 + l.length
    · rw [if_pos h1, if_pos (by omega)]
      obtain ⟨k, rfl⟩ : ∃ k, t = i + 1 + k := ⟨t - (i + 1), by omega⟩
      rw [show i + 1 + k - (i + 1) = k by omega, show i + 1 + k - i = k + 1 by omega]
      simp
    · rw [if_neg h1]
      by_cases h2 : t = i
      · subst h2
        rw [if_pos (by omega), Tr.get_set_same _ _ _ _ (two50 (by omega))]
        simp
      · rw [if_neg (by omega), Tr.get_set_other _ _ _ _ _ h2]

theorem tr_args {args args' : List Value} (hl : LR σ args args') {n : Nat} (hn : args.length ≤ n) (h50 : n < 2 ^ 50) :
    TR σ n (argsT args 0 .nil) { tmps := args'.toArray ++ Array.replicate (n - args'.toArray.size) undef, defers := [] } := by
  have hlen := hl.length
  refine ⟨by simp; omega, fun t => ?_, rfl⟩
  rw [argsT_get args 0 .nil (by omega) t]
  simp only [Array.getD_eq_getD_getElem?, Nat.zero_le, Nat.zero_add, true_and, Nat.sub_zero]
  by_cases ht : t < args.length
  · rw [if_pos ht, Array.getElem?_append_left (by simp; omega)]
    have h1 : args[t]? = some args[t] := List.getElem?_eq_getElem ht
    have h2 : args'[t]? = some (args'[t]'(by omega)) := List.getElem?_eq_getElem (by omega)
    rw [h1]
    simp only [List.getElem?_toArray, h2, Option.getD_some]
    exact hl.get t _ _ h1 h2
  · rw [if_neg ht]
    have : (args'.toArray ++ Array.replicate (n - args'.toArray.size) undef)[t]?.getD undef = undef := by
      rw [Array.getElem?_append_right (by simp; omega), Array.getElem?_replicate]
      split <;> rfl
    rw [this]
    exact undef_self

/-- One result. -/
def resSem (tmps : Array Value) : ResultVar → Sem Value
  | .tmp t => pure (tmps.getD t undef)
  | .cell c t => do loadVar t (← asAddr (tmps.getD c undef))
theorem results_eq (fn : Func) (tmps : Array Value) : results fn tmps = (do
    let vs ← fn.results.mapM (resSem tmps)
    pure (if h : vs.size = 1 then vs[0] else .tuple vs)) := rfl

theorem resAll_sound {h : Tr AObj} (ht : TR σ nt T a) (g : G P B W σ h w) : ∀ (rs : List ResultVar) {vs : List Value}, resAll P T h rs = some vs →
    ∃ vs', (rs.mapM (resSem a.tmps)).run P w = .ok vs' w ∧ LR σ vs vs'
  | [], vs, h1 => by simp only [resAll, Option.some.injEq] at h1; subst h1; exact ⟨[], by simp, .nil⟩
  | r :: rs, vs, h1 => by
    unfold resAll at h1
    split at h1
    · rename_i v hv
      split at h1
      · rename_i us hus
        cases h1
        obtain ⟨us', h2, h3⟩ := resAll_sound ht g rs hus
        have : ∃ v', (resSem a.tmps r).run P w = .ok v' w ∧ VR σ v v' := by
          cases r with
          | tmp t => simp only [resOf, Option.some.injEq] at hv; subst hv; exact ⟨_, rfl, ht.get t⟩
          | cell c t =>
            simp only [resOf] at hv
            split at hv
            · rename_i b off hp
              split at hv
              · rename_i cc e gr hb
                have h4 := ht.get c
                rw [hp] at h4
                obtain ⟨b', k, h5, h6⟩ := ptr_inv h4
                obtain ⟨c', e', fr, hw, hl⟩ := g.row h6 (.inl ⟨_, _, hb⟩)
                obtain ⟨v', h7, h8⟩ := run_readAt (P := P) hw hl hv
                exact ⟨v', by simp only [resSem, h5, asAddr, Sem.run_bind, Sem.run_pure, Result.andThen, h7], h8⟩
              · cases hv
            · cases hv
        obtain ⟨v', h4, h5⟩ := this
        refine ⟨v' :: us', ?_, .cons h5 h3⟩
        rw [List.mapM_cons]
        simp only [Sem.run_bind, h4, Result.andThen, h2, Sem.run_pure]
      · cases h1
    · cases h1

theorem results_sound {h : Tr AObj} {fn : Func} (ht : TR σ nt T a) (g : G P B W σ h w) {vs : List Value} (hr : resAll P T h fn.results.toList = some vs) :
    ∃ v', (results fn a.tmps).run P w = .ok v' w ∧ VR σ (resV vs) v' := by
  obtain ⟨vs', h1, h2⟩ := resAll_sound ht g _ hr
  refine ⟨if h : vs'.toArray.size = 1 then vs'.toArray[0] else .tuple vs'.toArray, ?_, ?_⟩
  · rw [results_eq, Array.mapM_eq_mapM_toList]
    simp only [Sem.run_bind, Sem.run_map, h1, Result.andThen, Sem.run_pure]
  · cases h2 with
    | nil => exact .tuple' (AR.of .nil)
    | cons hv t =>
      cases t with
      | nil => exact hv
      | cons hv2 t2 => exact .tuple' (AR.of (.cons hv (.cons hv2 t2)))

theorem callBy_sound {f : Nat} (hO : CallSound P O) (hR : RunSound P O f) : CallSound P (callBy P O (run P O f)) := by
  intro fn args h v k hc B W σ w args' hl g
  unfold callBy at hc
  split at hc
  · rename_i r hr
    cases hc
    exact hO fn args h v k hr B W σ w args' hl g
  · split at hc
    · rename_i F hF
      split at hc
      · rename_i c hb
        split at hc
        · rename_i hh
          split at hc
          · cases hc
          · rename_i ex T h' hne hrun
            split at hc
            · rename_i vs hvs
              cases hc
              refine calls_of_wp hF hb (hR _ _ _ _ _ _ _ B W σ _ w _ hh.2 hrun (tr_args hl hh.1 hh.2) g fun a' w' τ ht' g' st => ?_)
              obtain ⟨v', h1, h2⟩ := results_sound (fn := F) ht' g' hvs
              cases ex with
              | normal => exact ⟨ht'.defers, v', h1, v', τ, rfl, h2, g', st⟩
              | ret => exact ⟨ht'.defers, v', h1, v', τ, rfl, h2, g', st⟩
              | exit id => exact absurd rfl (hne id)
            · cases hc
          · cases hc
        · cases hc
      · cases hc
    · cases hc

def LoopSound (P : Program) (O : CallF) (f : Nat) : Prop :=
    ∀ (nt : Nat) (c : Code) (T : Tr Value) (h : H) (ex : Ex) (T' : Tr Value) (h' : H) (B : Nat) (W : World) (σ : Rho) (a : Act) (w : World) (Q : Exit → Act → World → Prop),
      nt < 2 ^ 50 → run P O f nt (.loop c) T h = some (ex, T', h') → TR σ nt T a → G P B W σ h.heap w →
      (∀ a' w' τ, TR τ nt T' a' → G P B W τ h'.heap w' → StepR σ h.heap τ h'.heap → Q (exOf ex) a' w') → LoopN P c Q f a w

theorem run_sound (hm : P.follows .mixedOrders = true) (hO : CallSound P O) : ∀ f, RunSound P O f ∧ LoopSound P O f := by
  intro f
  induction f with
  | zero => exact ⟨(by intro _ _ _ _ _ _ _ _ _ _ _ _ _ _ h; cases h), (by intro _ _ _ _ _ _ _ _ _ _ _ _ _ _ h; cases h)⟩
  | succ f ih =>
    obtain ⟨ihR, ihL⟩ := ih
    have hL : LoopSound P O (f + 1) := by
      intro nt c T h ex T' h' B W σ a w Q h50 hr ht g hQ
      unfold run at hr
      simp only at hr
      split at hr
      · rename_i T1 h1 h2
        refine ihR nt c T h .normal T1 h1 B W σ a w _ h50 h2 ht g fun a' w' τ ht' g' st => ?_
        exact ihL nt c T1 h1 ex T' h' B W τ a' w' Q h50 hr ht' g' fun a2 w2 υ ht2 g2 st2 => hQ a2 w2 υ ht2 g2 (st.trans st2)
      · rename_i hne
        refine ihR nt c T h ex T' h' B W σ a w _ h50 hr ht g fun a' w' τ ht' g' st => ?_
        cases ex with
        | normal => exact absurd hr (hne T' h')
        | exit id => exact hQ a' w' τ ht' g' st
        | ret => exact hQ a' w' τ ht' g' st
    refine ⟨?_, hL⟩
    intro nt c T h ex T' h' B W σ a w Q h50 hr ht g hQ
    cases c with
    | loop c => exact wp_loopN (hL nt c T h ex T' h' B W σ a w Q h50 hr ht g hQ)
    | skip =>
      simp only [run, Option.some.injEq, Prod.mk.injEq] at hr
      obtain ⟨rfl, rfl, rfl⟩ := hr
      exact wp_skip (hQ a w σ ht g (StepR.refl _ _))
    | label l =>
      simp only [run, Option.some.injEq, Prod.mk.injEq] at hr
      obtain ⟨rfl, rfl, rfl⟩ := hr
      exact wp_label (hQ a w σ ht g (StepR.refl _ _))
    | exit id =>
      simp only [run, Option.some.injEq, Prod.mk.injEq] at hr
      obtain ⟨rfl, rfl, rfl⟩ := hr
      exact wp_exit (hQ a w σ ht g (StepR.refl _ _))
    | ret =>
      simp only [run, Option.some.injEq, Prod.mk.injEq] at hr
      obtain ⟨rfl, rfl, rfl⟩ := hr
      exact wp_ret (hQ a w σ ht g (StepR.refl _ _))
    | region id ops draw =>
      unfold run at hr
      simp only at hr
      split at hr
      · rename_i T1 h1 hreg
        simp only [Option.some.injEq, Prod.mk.injEq] at hr
        obtain ⟨rfl, rfl, rfl⟩ := hr
        exact region_sound hm (callBy_sound hO ihR) h50 ht g hreg hQ
      · cases hr
    | seq x y =>
      unfold run at hr
      simp only at hr
      split at hr
      · rename_i T1 h1 h2
        refine wp_seq (ihR nt x T h .normal T1 h1 B W σ a w _ h50 h2 ht g fun a' w' τ ht' g' st => ?_)
        exact ihR nt y T1 h1 ex T' h' B W τ a' w' Q h50 hr ht' g' fun a2 w2 υ ht2 g2 st2 => hQ a2 w2 υ ht2 g2 (st.trans st2)
      · rename_i hne
        refine wp_seq (ihR nt x T h ex T' h' B W σ a w _ h50 hr ht g fun a' w' τ ht' g' st => ?_)
        cases ex with
        | normal => exact absurd hr (hne T' h')
        | exit id => exact hQ a' w' τ ht' g' st
        | ret => exact hQ a' w' τ ht' g' st
    | cond c x y =>
      unfold run at hr
      simp only at hr
      have hc : ∀ b, evH T h.heap c = some (.bool b) → a.eval c = .bool b := fun b hb => by
        have := ops_of (l := #[c]) (T := T) (a := a) (fun x _ t _ => ht.get t) g c (by simp) _ hb
        exact bool_inv this
      split at hr
      · rename_i hb
        exact wp_cond_true (hc _ hb) (ihR nt x T h ex T' h' B W σ a w Q h50 hr ht g hQ)
      · rename_i hb
        exact wp_cond_false (hc _ hb) (ihR nt y T h ex T' h' B W σ a w Q h50 hr ht g hQ)
      · cases hr
    | block id c =>
      unfold run at hr
      simp only at hr
      split at hr
      · rename_i i T1 h1 h2
        refine wp_block (ihR nt c T h (.exit i) T1 h1 B W σ a w _ h50 h2 ht g fun a' w' τ ht' g' st => ?_)
        split at hr
        · rename_i hi
          simp only [Option.some.injEq, Prod.mk.injEq] at hr
          obtain ⟨rfl, rfl, rfl⟩ := hr
          show (if i = id then Q .normal a' w' else Q (.exit i) a' w')
          rw [if_pos hi]
          exact hQ a' w' τ ht' g' st
        · rename_i hi
          simp only [Option.some.injEq, Prod.mk.injEq] at hr
          obtain ⟨rfl, rfl, rfl⟩ := hr
          show (if i = id then Q .normal a' w' else Q (.exit i) a' w')
          rw [if_neg hi]
          exact hQ a' w' τ ht' g' st
      · rename_i hne
        refine wp_block (ihR nt c T h ex T' h' B W σ a w _ h50 hr ht g fun a' w' τ ht' g' st => ?_)
        cases ex with
        | normal => exact hQ a' w' τ ht' g' st
        | exit id' => exact absurd hr (hne id' T' h')
        | ret => exact hQ a' w' τ ht' g' st
    | scope c =>
      unfold run at hr
      simp only at hr
      refine wp_scope_straight (ihR nt c T h ex T' h' B W σ a w _ h50 hr ht g fun a' w' τ ht' g' st => ?_)
      cases ex with
      | normal => exact hQ a' w' τ ht' g' st
      | exit id => exact hQ a' w' τ ht' g' st
      | ret => exact hQ a' w' τ ht' g' st
    | _ => simp [run] at hr

theorem call_sound (hm : P.follows .mixedOrders = true) (hO : CallSound P O) (f : Nat) : CallSound P (call P O f) := callBy_sound hO (run_sound hm hO f).1

theorem noO_sound : CallSound P noO := fun _ _ _ _ _ h => by cases h

/-- At the beginning nothing is known of memory. -/
theorem G.start (W : World) : G P W.heap.size W (fun _ => none) .nil W :=
  ⟨fun _ _ _ _ h => (by cases h), fun _ _ h => (by cases h), fun _ _ _ _ _ _ _ h => (by cases h), fun _ _ _ _ h => (by cases h), fun b c e h => (by cases h), Nat.le_refl _, RowKit.Below.refl _ _⟩

/-- Rows of package variables that are known. -/
def globH : List (Nat × List Value) → Tr AObj
  | [] => .nil
  | (g, vs) :: l => (globH l).set 60 g (.glob vs 0)
def globR (l : List (Nat × List Value)) : Rho := fun b => if l.any (fun p => p.1 == b) then some (b, none) else none

theorem globH_get : ∀ {l : List (Nat × List Value)} {b : Nat} {o : AObj}, (globH l).get b = some o → ∃ vs, o = .glob vs 0 ∧ (b, vs) ∈ l
  | [], b, o, h => by cases h
  | (g, vs) :: l, b, o, h => by
    unfold globH at h
    by_cases e : b = g
    · subst e
      by_cases hs : b + 1 < 2 ^ 60
      · rw [Tr.get_set_same _ _ _ _ hs] at h
        cases h
        exact ⟨vs, rfl, by simp⟩
      · obtain ⟨us, h1, h2⟩ : ∃ us, o = .glob us 0 ∧ ((b, us) ∈ l ∨ us = vs) := by
          rcases Tr.get_set_or (AObj.glob vs 0) 60 b (globH l) with h3 | h3
          · rw [h3] at h; cases h; exact ⟨vs, rfl, .inr rfl⟩
          · rw [h3] at h; obtain ⟨us, h4, h5⟩ := globH_get h; exact ⟨us, h4, .inl h5⟩
        rcases h2 with h2 | h2
        · exact ⟨us, h1, List.mem_cons_of_mem _ h2⟩
        · subst h2; exact ⟨us, h1, by simp⟩
    · rw [Tr.get_set_other _ _ _ _ _ e] at h
      obtain ⟨us, h1, h2⟩ := globH_get h
      exact ⟨us, h1, List.mem_cons_of_mem _ h2⟩

theorem globH_some : ∀ {l : List (Nat × List Value)} {b : Nat}, (∀ p ∈ l, p.1 < 2 ^ 50) → l.any (fun p => p.1 == b) = true → ∃ o, (globH l).get b = some o
  | [], b, _, h => by simp at h
  | (g, vs) :: l, b, hl, h => by
    unfold globH
    by_cases e : b = g
    · subst e; exact ⟨_, Tr.get_set_same _ _ _ _ (two50 (hl (b, vs) (by simp)))⟩
    · rw [Tr.get_set_other _ _ _ _ _ e]
      refine globH_some (fun p hp => hl p (by simp [hp])) ?_
      simp only [List.any_cons, Bool.or_eq_true, beq_iff_eq] at h
      rcases h with h | h
      · exact absurd h.symm e
      · exact h

/-- At the beginning these package variables hold that. -/
theorem G.startG (W : World) (l : List (Nat × List Value)) (hl : (l.all fun p => decide (p.1 < 2 ^ 50) && !p.2.isEmpty && p.2.all (flat 4)) = true)
    (hc : ∀ g vs, (g, vs) ∈ l → ∀ i v, vs[i]? = some v → W.cell? ⟨g, i, none⟩ = some v) : G P W.heap.size W (globR l) (globH l) W := by
  rw [List.all_eq_true] at hl
  have hl' : ∀ p ∈ l, p.1 < 2 ^ 50 ∧ p.2 ≠ [] ∧ ∀ v ∈ p.2, flat 4 v = true := fun p hp => by
    have := hl p hp
    simp only [Bool.and_eq_true, decide_eq_true_eq, Bool.not_eq_true', List.isEmpty_eq_false_iff, List.all_eq_true] at this
    exact ⟨this.1.1, this.1.2, this.2⟩
  have hσ : ∀ b x, globR l b = some x → x = (b, none) ∧ l.any (fun p => p.1 == b) = true := fun b x h => by
    unfold globR at h
    split at h
    · rename_i ha; cases h; exact ⟨rfl, ha⟩
    · cases h
  refine ⟨fun b b' k o h1 h2 h3 => ?_, fun b x h => globH_some (fun p hp => (hl' p hp).1) (hσ b x h).2, fun b c b' k l' o q h1 h2 _ _ _ _ => ?_, fun b b' k o h1 h2 h3 => ?_, fun b c e h => ?_, Nat.le_refl _, RowKit.Below.refl _ _⟩
  · obtain ⟨hx, _⟩ := hσ b _ h1
    cases hx
    obtain ⟨vs, rfl, hm⟩ := globH_get h2
    obtain ⟨_, hne, hf⟩ := hl' _ hm
    cases hv : vs with
    | nil => exact absurd hv hne
    | cons v0 vt =>
      have h0 := hc _ _ hm 0 v0 (by rw [hv]; rfl)
      have hcell : ∃ c' e' fr, W.heap[b]? = some (.cells c' e' fr) := by
        unfold World.cell? at h0
        split at h0
        · rename_i c e fr hh; exact ⟨c, e, fr, hh⟩
        · cases h0
      obtain ⟨c', e', fr, hh⟩ := hcell
      refine ⟨_, hh, c', e', fr, rfl, ?_⟩
      rw [← hv]
      have hget : ∀ i v, vs[i]? = some v → c'[i]? = some v := fun i v hi => by
        have := hc _ _ hm i v hi
        rwa [cell_of_row W b i c' e' fr hh] at this
      have hlen : vs.length ≤ c'.size := by
        rcases Nat.lt_or_ge c'.size vs.length with hlt | hge
        · have h5 := hget c'.size _ (List.getElem?_eq_getElem hlt)
          simp at h5
        · exact hge
      refine LR.of_get (by simp only [List.length_take, Array.length_toList]; omega) fun i v v' h5 h6 => ?_
      have h7 := hget i v h5
      rw [List.getElem?_take] at h6
      split at h6
      · simp only [Array.getElem?_toList] at h6
        rw [h7] at h6
        cases h6
        exact flat_self 4 (hf v (List.mem_of_getElem? h5))
      · cases h6
  · obtain ⟨hx, _⟩ := hσ b _ h1
    obtain ⟨hy, _⟩ := hσ c _ h2
    cases hx; cases hy; rfl
  · obtain ⟨vs, rfl, _⟩ := globH_get h2
    exact h3.elim
  · obtain ⟨vs, _, hm⟩ := globH_get h
    unfold globR
    rw [if_pos (List.any_eq_true.2 ⟨_, hm, by simp⟩)]

/-- What a call with values without addresses, or that stand for others, answers: yes. -/
def saysTrue (P : Program) (O : CallF) (n : Nat) (f : FuncId) (args : List Value) (l : List (Nat × List Value)) (next : Nat) : Bool :=
  match call P O n f args ⟨globH l, next⟩ with
  | some (.bool b, _) => b
  | _ => false

theorem says (hm : P.follows .mixedOrders = true) (hO : CallSound P O) {n : Nat} {f : FuncId} {args args' : List Value} {l : List (Nat × List Value)} {next : Nat} (hc : saysTrue P O n f args l next = true) (W : World)
    (ha : LR (globR l) args args') (hl : (l.all fun p => decide (p.1 < 2 ^ 50) && !p.2.isEmpty && p.2.all (flat 4)) = true) (hg : ∀ g vs, (g, vs) ∈ l → ∀ i v, vs[i]? = some v → W.cell? ⟨g, i, none⟩ = some v) :
    Calls P f args'.toArray W fun e w' => e = .returned (.bool true) ∧ RowKit.Below W.heap.size W w' := by
  unfold saysTrue at hc
  split at hc
  · rename_i b k h1
    subst hc
    refine (call_sound hm hO n f args _ _ k h1 W.heap.size W _ W args' ha (G.startG W l hl hg)).mono ?_
    rintro e w' ⟨v', τ, rfl, hv, g, _⟩
    exact ⟨by rw [bool_inv hv], g.below⟩
  · cases hc

/-- A call without arguments of what looks at no memory that was there: it answers what the reader answers. -/
theorem closed (hm : P.follows .mixedOrders = true) (hO : CallSound P O) {n : Nat} {f : FuncId} {next : Nat} {b : Bool} (hc : ((call P O n f [] ⟨.nil, next⟩).map fun r => match r.1 with | .bool c => c == b | _ => false) = some true) (W : World) :
    Calls P f #[] W fun e w' => e = .returned (.bool b) ∧ RowKit.Below W.heap.size W w' := by
  obtain ⟨⟨v, k⟩, h1, h2⟩ := map_some_inv hc
  refine (call_sound hm hO n f [] _ v k h1 W.heap.size W _ W [] .nil (G.start W)).mono ?_
  rintro e w' ⟨v', τ, rfl, hv, g, _⟩
  refine ⟨?_, g.below⟩
  simp only at h2
  split at h2
  · rename_i c
    rw [bool_inv hv]
    simp at h2; rw [h2]
  · cases h2
end Go.Proofs.YtjiekjfbllinbaaDoor.Rx
