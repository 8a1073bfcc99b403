/- Regions, code, calls: what the reader answers is what the model answers. -/
import Derived.Test.YtjiekjfbllinbaaDoorRn
namespace Go.Proofs.YtjiekjfbllinbaaDoor.Rx
open Go
set_option linter.unusedSectionVars false
set_option linter.unusedVariables false
set_option linter.unusedSimpArgs false
variable [Opq] [Hints]
variable {P : Program} [HintsOk P] {ops : Array Oper} {B nt : Nat} {W w : World} {σ0 σ : Rho} {h0 : Tr AObj} {listed : Array Bool} {Y Z : List Nat} {T : Tr Value} {a : Act} {ids : Nat → Nat} {own : Nat → Option Nat} {F : CallF}

theorem sync_false {k : Nat} {o : Oper} (ho : ops[k]? = some o) (h : sync ops k = false) : isLoud o.op = false := by
  unfold sync at h
  simp only [ho, Bool.or_eq_false_iff] at h
  exact h.1

theorem looks_tmp {o : Oper} {t : Tmp} (h : Operand.tmp t ∈ o.op.operands) : t ∈ looks ops o := by
  unfold looks
  refine List.mem_append.2 (.inl ?_)
  rw [List.mem_filterMap]
  exact ⟨.tmp t, by simpa using h, rfl⟩

/-- The reader carries out a quiet operation ahead of the model. -/
theorem Inv.advance {h h' : H} {T' : Tr Value} (v : Inv P ops B W nt σ0 h0 listed Y Z σ T h.heap a w ids own) (h50 : nt < 2 ^ 50) (hok : tmpsOk ops = true) {k : Nat} {o : Oper} (ho : ops[k]? = some o) (hY : k ∉ Y) (hs : sync ops k = false)
    (hd : ∀ d ∈ deps o, d ∈ Y) (h1 : one P F nt ops o T h = some (T', h')) : ∃ ids' own', Inv P ops B W nt σ0 h0 listed (k :: Y) Z σ T' h'.heap a w ids' own' := by
  have hq : isLoud o.op = false := sync_false ho hs
  have hnx : ¬ InX listed k := fun hx => hY (v.xy k hx)
  -- nobody that has been carried out looks at what is written now
  have hother : ∀ p q, p ∈ Y → ops[p]? = some q → ∀ d ∈ Rx.looks ops q, o.dst ≠ some d := fun p q hp hq d hm hdst => by
    obtain ⟨_, h2⟩ := tmpsOk_get hok ho hdst hq
    rcases h2 hm with ⟨h3, _⟩ | ⟨h3, _⟩
    · exact hY (v.ord.deps hp q hq k h3)
    · rw [hs] at h3; cases h3
  have hself : ∀ d ∈ Rx.looks ops o, o.dst ≠ some d := fun d hm hdst => by
    obtain ⟨_, h2⟩ := tmpsOk_get hok ho hdst ho
    rcases h2 hm with ⟨_, h3⟩ | ⟨h3, _⟩
    · exact h3 rfl
    · rw [hs] at h3; cases h3
  have hdst : ∀ p q, p ∈ Y → ops[p]? = some q → ∀ d, q.dst = some d → o.dst ≠ some d := fun p q hp hq d hqd hod => by
    obtain ⟨h2, _⟩ := tmpsOk_get hok ho hod hq
    rcases h2 with h2 | h2
    · subst h2; exact hY hp
    · exact h2 hqd
  -- what stays, whatever comes of it
  have mk : ∀ (u : Value) (T' : Tr Value) (k' : Tr AObj) (ids' : Nat → Nat) (own' : Nat → Option Nat), putT nt T o.dst u = some T' → Ext h.heap k' → G P B W σ k' w → (∀ p, p ≠ k → ids' p = ids p) → (∀ b x, h.heap.get b = some x → own' b = own b) →
      Pend P ops nt σ T' k' ids' own' k o → Inv P ops B W nt σ0 h0 listed (k :: Y) Z σ T' k' a w ids' own' := by
    intro u T' k' ids' own' hp x g hids hown hpk
    refine ⟨v.sz, fun i hi => List.mem_cons_of_mem _ (v.xy i hi), v.xdown, ⟨fun o' ho' d hd' => ?_, v.ord⟩, fun i hi => ?_, fun i hi hsy => ?_, v.zx, v.asz, v.adef, fun t ht => ?_, g, fun i q hi hn hq' => ?_, v.le0, fun b q h1 h2 => ?_⟩
    · rw [ho] at ho'; cases ho'; exact hd d hd'
    · rcases List.mem_cons.1 hi with rfl | hi
      · exact lt_of ho
      · exact v.yn i hi
    · rcases List.mem_cons.1 hi with rfl | hi
      · rw [hs] at hsy; cases hsy
      · exact v.sy i hi hsy
    · have hkt : o.dst ≠ some t := ht k o (by simp) hnx ho
      rw [putT_get hp hkt]
      exact v.tmps t fun i q hi => ht i q (List.mem_cons_of_mem _ hi)
    · rcases List.mem_cons.1 hi with rfl | hi
      · rw [ho] at hq'; cases hq'; exact hpk
      · obtain ⟨hnt, hpp⟩ := v.pend i q hi hn hq'
        have hik : i ≠ k := fun e => hY (e ▸ hi)
        have hTl : ∀ d ∈ Rx.looks ops q, T'.get d = T.get d := fun d hm => putT_get hp (hother i q hi hq' d hm)
        refine ⟨hnt, ?_⟩
        rcases hpp with ⟨h3, h4⟩ | ⟨h3, e, h4, h5, h6⟩
        · exact .inl ⟨by rw [wantedT_congr hTl]; exact h3, fun d hqd => by rw [putT_get hp (hdst i q hi hq' d hqd)]; exact h4 d hqd⟩
        · refine .inr ⟨by rw [wantedT_congr hTl]; exact h3, e, ?_, fun d hqd => by rw [putT_get hp (hdst i q hi hq' d hqd)]; exact h5 d hqd, fun u2 ob2 he => ?_⟩
          · rw [hids i hik, ← eag_congr (evH_ext x fun y hy t ht => hTl t (looks_tmp (ht ▸ hy)))]
            exact eag_ext x h4
          · obtain ⟨h7, h8, h9⟩ := h6 u2 ob2 he
            rw [hids i hik]
            exact ⟨x.get _ _ h7, h8, by rw [hown _ _ h7]; exact h9⟩
    · obtain ⟨h3, h4, h5⟩ := v.st0 b q h1 h2
      exact ⟨h3, x.get _ _ h4, by rw [hown _ _ h4]; exact h5⟩
  have hTk : ∀ {u : Value} {T' : Tr Value}, putT nt T o.dst u = some T' → wantedT T' ops o = wantedT T ops o := fun hp => wantedT_congr fun d hm => putT_get hp (hself d hm)
  have hdk : ∀ {u : Value} {T' : Tr Value}, putT nt T o.dst u = some T' → ∀ d, o.dst = some d → T'.get d = some u ∧ d < nt := fun {u T'} hp d hd' => by rw [hd'] at hp; exact putT_same h50 hp
  unfold one at h1
  split at h1
  · rename_i hw
    obtain ⟨T2, hp, hkk⟩ := map_some_inv h1
    cases hkk
    exact ⟨ids, own, mk undef _ h.heap ids own hp ⟨fun _ _ x => x, fun _ _ _ x => x⟩ v.g (fun _ _ => rfl) (fun _ _ _ => rfl)
      ⟨fun d hd' => (hdk hp d hd').2, .inl ⟨by rw [hTk hp]; exact hw, fun d hd' => (hdk hp d hd').1⟩⟩⟩
  · rename_i hw
    rw [hq] at h1
    simp only [Bool.false_eq_true, if_false] at h1
    split at h1
    · rename_i u he
      obtain ⟨T2, hp, hkk⟩ := map_some_inv h1
      cases hkk
      refine ⟨ids, own, mk u _ h.heap ids own hp ⟨fun _ _ x => x, fun _ _ _ x => x⟩ v.g (fun _ _ => rfl) (fun _ _ _ => rfl)
        ⟨fun d hd' => (hdk hp d hd').2, .inr ⟨by rw [hTk hp]; exact hw, .val u, ?_, fun d hd' => (hdk hp d hd').1, fun _ _ h => by cases h⟩⟩⟩
      rw [← eag_congr (evH_ext (h := h.heap) (h' := h.heap) ⟨fun _ _ x => x, fun _ _ _ x => x⟩ fun y hy t ht => putT_get hp (hself t (looks_tmp (ht ▸ hy))))]
      exact eag_id he
    · rename_i u ob he
      split at h1
      · rename_i hh
        obtain ⟨T2, hp, hkk⟩ := map_some_inv h1
        cases hkk
        have hid : h.heap.get h.next = none := by
          cases hq : h.heap.get h.next with
          | none => rfl
          | some _ => rw [hq] at hh; simp at hh
        have hm : ob.mine := eag_mine he
        obtain ⟨g2, x, hsi⟩ := v.g.extra hid hh.2 hm
        refine ⟨fun p => if p = k then h.next else ids p, fun b => if b = h.next then some k else own b, mk u _ _ _ _ hp x g2 (fun p hp' => by simp [hp']) (fun b y hb => ?_)
          ⟨fun d hd' => (hdk hp d hd').2, .inr ⟨by rw [hTk hp]; exact hw, .new u ob, ?_, fun d hd' => (hdk hp d hd').1, fun u2 ob2 h => ?_⟩⟩⟩
        · have : b ≠ h.next := fun e => by subst e; rw [hid] at hb; cases hb
          simp [this]
        · simp only [if_true]
          rw [← eag_congr (evH_ext x fun y hy t ht => putT_get hp (hself t (looks_tmp (ht ▸ hy))))]
          exact eag_ext x he
        · cases h
          simp only [if_true]
          exact ⟨Tr.get_set_same _ _ _ _ (two50 hh.2), hsi, trivial⟩
      · cases h1
    · cases h1
  · cases h1
end Go.Proofs.YtjiekjfbllinbaaDoor.Rx
