/- Regions that draw their order; code; calls. -/
import Derived.Test.YtjiekjfbllinbaaDoorRo
namespace Go.Proofs.YtjiekjfbllinbaaDoor.Rx
open Go
set_option linter.unusedSectionVars false
set_option linter.unusedVariables false
set_option linter.unusedSimpArgs false
variable [Opq] [Hints]
variable {P : Program} [HintsOk P] {ops : Array Oper} {B nt : Nat} {W w : World} {σ0 σ : Rho} {h0 : Tr AObj} {listed : Array Bool} {Y Z : List Nat} {T : Tr Value} {a : Act} {ids : Nat → Nat} {own : Nat → Option Nat} {F : CallF}

/-- Both carry out an operation. -/
theorem Inv.step {h h' : H} {T' : Tr Value} (v : Inv P ops B W nt σ0 h0 listed Y Z σ T h.heap a w ids own) (hF : CallSound P F) (h50 : nt < 2 ^ 50) (hok : tmpsOk ops = true) {j : Nat} {o : Oper} (ho : ops[j]? = some o) (hY : j ∉ Y) (hs : sync ops j = true)
    (hd : ∀ d ∈ deps o, InX listed d) {rc : List Nat} (hrc : ∀ k ∈ Y, k ∈ settle ops Z j ∨ k ∈ rc ∨ ∀ q, ops[k]? = some q → heapful q.op = false) (h1 : one P F nt ops o T h = some (T', h')) (hst : ∀ k ∈ rc, stable P ops T' h' k = true)
    {Q : Exit → Act → World → Prop} {K : Act → World → Prop}
    (hK : ∀ a' w' τ, Inv P ops B W nt σ0 h0 (listed.setIfInBounds j true) (j :: Y) (settle ops Z j) τ T' h'.heap a' w' ids own → K a' w') : wpOp P ops Q j K a w := by
  have hlk := v.looks hok ho hd
  have hlt : j < listed.size := by rw [v.sz]; exact lt_of ho
  have hx : ∀ i, InX (listed.setIfInBounds j true) i ↔ i = j ∨ InX listed i := fun i => inX_set hlt
  have hdown : ∀ i q, InX (listed.setIfInBounds j true) i → ops[i]? = some q → ∀ d ∈ deps q, InX (listed.setIfInBounds j true) d := fun i q hi hq d hd' => by
    rcases (hx i).1 hi with rfl | hi
    · rw [ho] at hq; cases hq; exact (hx d).2 (.inr (hd d hd'))
    · exact (hx d).2 (.inr (v.xdown i q hi hq d hd'))
  have hset0 : ∀ i ∈ settle ops [] j, InX (listed.setIfInBounds j true) i := settle_sub (X := fun i => InX (listed.setIfInBounds j true) i) hdown (fun i hi => by simp at hi) ((hx j).2 (.inl rfl))
  have hset : ∀ i ∈ settle ops Z j, InX (listed.setIfInBounds j true) i := settle_sub (X := fun i => InX (listed.setIfInBounds j true) i) hdown (fun i hi => (hx i).2 (.inr (v.zx i hi))) ((hx j).2 (.inl rfl))
  -- nobody that is still to be carried out by the model looks at what is written now
  have hother : ∀ p q, p ∈ Y → ¬ InX listed p → ops[p]? = some q → ∀ d ∈ Rx.looks ops q, o.dst ≠ some d := fun p q hp hn hq d hm hdst => by
    obtain ⟨_, h2⟩ := tmpsOk_get hok ho hdst hq
    rcases h2 hm with ⟨h3, _⟩ | ⟨_, h3⟩
    · exact hY (v.ord.deps hp q hq j h3)
    · rcases h3 with h3 | h3
      · subst h3; exact hY hp
      · rcases (hx p).1 (hset0 p h3) with h4 | h4
        · subst h4; exact hY hp
        · exact hn h4
  have hdst : ∀ p q, p ∈ Y → ops[p]? = some q → ∀ d, q.dst = some d → o.dst ≠ some d := fun p q hp hq d hqd hod => by
    obtain ⟨h2, _⟩ := tmpsOk_get hok ho hod hq
    rcases h2 with h2 | h2
    · subst h2; exact hY hp
    · exact h2 hqd
  refine one_goes hF v.g ho hlk h1 fun u u' w' τ hp hv g st => hK _ _ τ ?_
  refine ⟨by simp [v.sz], fun i hi => ?_, hdown, ⟨fun o' ho' d hd' => ?_, v.ord⟩, fun i hi => ?_, fun i hi hsy => ?_, hset, by rw [put_size]; exact v.asz, by rw [put_defs]; exact v.adef, fun t ht => ?_, g, fun i q hi hn hq => ?_, Rho.le_trans v.le0 st.le, fun b q h2 h3 => ?_⟩
  · rcases (hx i).1 hi with rfl | hi
    · simp
    · exact List.mem_cons_of_mem _ (v.xy i hi)
  · rw [ho] at ho'; cases ho'; exact v.xy d (hd d hd')
  · rcases List.mem_cons.1 hi with rfl | hi
    · exact lt_of ho
    · exact v.yn i hi
  · rcases List.mem_cons.1 hi with rfl | hi
    · exact (hx i).2 (.inl rfl)
    · exact (hx i).2 (.inr (v.sy i hi hsy))
  · by_cases hdt : o.dst = some t
    · rw [hdt] at hp
      obtain ⟨h4, h5⟩ := putT_same h50 hp
      rw [h4, hdt, put_same (by rw [v.asz]; exact h5)]
      exact hv
    · rw [put_get hdt, putT_get hp hdt]
      refine (v.tmps t fun i q hi hn hq => ?_).mono st.le
      exact ht i q (List.mem_cons_of_mem _ hi) (fun hh => by
        rcases (hx i).1 hh with h4 | h4
        · subst h4; exact hY hi
        · exact hn h4) hq
  · rcases List.mem_cons.1 hi with rfl | hi
    · exact absurd ((hx i).2 (.inl rfl)) hn
    · have hn' : ¬ InX listed i := fun h => hn ((hx i).2 (.inr h))
      obtain ⟨hnt, hpp⟩ := v.pend i q hi hn' hq
      have hTl : ∀ d ∈ Rx.looks ops q, T'.get d = T.get d := fun d hm => putT_get hp (hother i q hi hn' hq d hm)
      have hTd : ∀ d, q.dst = some d → T'.get d = T.get d := fun d hqd => putT_get hp (hdst i q hi hq d hqd)
      refine ⟨hnt, ?_⟩
      rcases hpp with ⟨h3, h4⟩ | ⟨h3, e, h4, h5, h6⟩
      · exact .inl ⟨by rw [wantedT_congr hTl]; exact h3, fun d hqd => by rw [hTd d hqd]; exact h4 d hqd⟩
      · refine .inr ⟨by rw [wantedT_congr hTl]; exact h3, ?_⟩
        by_cases hf : heapful q.op = false
        · obtain ⟨ha, hg⟩ := heapful_asks hf
          refine ⟨e, ?_, fun d hqd => by rw [hTd d hqd]; exact h5 d hqd, fun u2 ob2 he => ?_⟩
          · rw [← eag_congr (evH_noGlobal (T := T) (h := h.heap) hg fun y hy t ht => hTl t (looks_tmp (ht ▸ hy))), ← eag_heapless (h := h.heap) ha]
            exact h4
          · obtain ⟨h7, h8, h9⟩ := h6 u2 ob2 he
            obtain ⟨h10, h11⟩ := st.keep _ _ h8 h7
            exact ⟨h11, h10, h9⟩
        · have hin : i ∈ rc := by
            rcases hrc i hi with h7 | h7 | h7
            · rcases (hx i).1 (hset i h7) with h8 | h8
              · exact absurd (h8 ▸ hi) hY
              · exact absurd h8 hn'
            · exact h7
            · exact absurd (h7 q hq) hf
          have hsb := hst i hin
          unfold stable at hsb
          rw [hq] at hsb
          simp only [wantedT_congr hTl, h3] at hsb
          cases hE : eag P q (evH T' h'.heap) h'.heap 0 with
          | none => rw [hE] at hsb; simp at hsb
          | some e2 =>
            rw [hE] at hsb
            cases e2 with
            | new u2 ob2 => simp at hsb
            | val u2 =>
              refine ⟨.val u2, eag_id hE, fun d hqd => ?_, fun _ _ h => by cases h⟩
              rw [hqd] at hsb
              simp only at hsb
              have h8 := eqv_eq 8 hsb
              rw [hTd d hqd, h5 d hqd] at h8 ⊢
              simp only [Option.getD_some] at h8
              rw [h8]; rfl
  · obtain ⟨h4, h5, h6⟩ := v.st0 b q h2 h3
    obtain ⟨h7, h8⟩ := st.keep b q h4 h5
    exact ⟨h7, h8, h6⟩

theorem cnt_zero {listed : Array Bool} (h : cnt ops listed = 0) : ∀ i, i < ops.size → InX listed i := by
  intro i hi
  unfold cnt at h
  have := List.eq_nil_of_length_eq_zero h
  rw [List.filter_eq_nil_iff] at this
  have h1 := this i (by rw [List.mem_range]; exact hi)
  unfold InX
  simpa using h1

theorem Inv.all {h : H} (v : Inv P ops B W nt σ0 h0 listed Y Z σ T h.heap a w ids own) (hall : ∀ i ∈ Y, InX listed i) : TR σ nt T a ∧ G P B W σ h.heap w ∧ StepR σ0 h0 σ h.heap :=
  ⟨⟨v.asz, fun t => v.tmps t fun i o hi hn => absurd (hall i hi) hn, v.adef⟩, v.g, v.le0, fun b o h1 h2 => let ⟨h3, h4, _⟩ := v.st0 b o h1 h2; ⟨h3, h4⟩⟩

theorem sched_sound (hF : CallSound P F) (h50 : nt < 2 ^ 50) (hok : tmpsOk ops = true) {Q : Exit → Act → World → Prop} {T' : Tr Value} {h' : H}
    (hQ : ∀ a' w' τ, TR τ nt T' a' → G P B W τ h'.heap w' → StepR σ0 h0 τ h'.heap → Q .normal a' w') : ∀ (fuel : Nat) (s : Sched) (Y Z : List Nat) (listed : Array Bool) (σ : Rho) (T : Tr Value) (h : H) (a : Act) (w : World) (ids : Nat → Nat) (own : Nat → Option Nat),
    Inv P ops B W nt σ0 h0 listed Y Z σ T h.heap a w ids own → chkSched ops s Y Z = true → runSched P F nt ops s T h = some (T', h') → cnt ops listed ≤ fuel → wpAny P .any ops Q fuel listed a w := by
  intro fuel
  induction fuel with
  | zero =>
    intro s
    induction s with
    | nil =>
      intro Y Z listed σ T h a w ids own v hc hr hn
      have hall := cnt_zero (ops := ops) (listed := listed) (by omega)
      simp only [runSched, Option.some.injEq, Prod.mk.injEq] at hr
      obtain ⟨rfl, rfl⟩ := hr
      refine ⟨?_, ?_⟩
      · apply List.eq_nil_iff_forall_not_mem.2
        intro i hi
        obtain ⟨h1, h2, _⟩ := (mem_ready v.sz).1 hi
        exact h2 (hall i h1)
      · obtain ⟨h1, h2, h3⟩ := v.all fun i hi => hall i (v.yn i hi)
        exact hQ _ _ _ h1 h2 h3
    | cons e s ih =>
      obtain ⟨k, rc⟩ := e
      intro Y Z listed σ T h a w ids own v hc hr hn
      cases rc with
      | none =>
        unfold chkSched at hc
        unfold runSched at hr
        cases ho : ops[k]? with
        | none => simp [ho] at hc
        | some o =>
          simp only [ho, Bool.and_eq_true, Bool.not_eq_true', List.all_eq_true] at hc hr
          obtain ⟨⟨⟨h1, h2⟩, h3⟩, h4⟩ := hc
          split at hr
          · rename_i T1 k1 hone
            obtain ⟨ids', own', v'⟩ := v.advance h50 hok ho (by simpa using h1) h2 (fun d hd => by simpa using h3 d hd) hone
            exact ih _ _ _ _ _ _ _ _ _ _ v' h4 hr hn
          · cases hr
      | some rc =>
        exfalso
        have hall := cnt_zero (ops := ops) (listed := listed) (by omega)
        unfold chkSched at hc
        cases ho : ops[k]? with
        | none => simp [ho] at hc
        | some o =>
          simp only [ho, Bool.and_eq_true, Bool.not_eq_true'] at hc
          have h1 := hc.1.1.1.1.1
          have := v.xy k (hall k (lt_of ho))
          simp [this] at h1
  | succ fuel ihf =>
    intro s
    induction s with
    | nil =>
      intro Y Z listed σ T h a w ids own v hc hr hn
      have hr' := hr
      simp only [runSched, Option.some.injEq, Prod.mk.injEq] at hr
      obtain ⟨rfl, rfl⟩ := hr
      have hYall : ∀ i, i < ops.size → i ∈ Y := fun i hi => by
        unfold chkSched at hc
        rw [List.all_eq_true] at hc
        simpa using hc i (by rw [List.mem_range]; exact hi)
      refine ⟨fun hnil => ?_, fun i hi => ?_⟩
      · have hall : ∀ i ∈ Y, InX listed i := fun i hi => Classical.byContradiction fun hni => by
          obtain ⟨p, hp, hpn, hpd⟩ := v.ord.first (X := InX listed) ⟨i, hi, hni⟩
          have : p ∈ Region.ready .any ops listed := (mem_ready v.sz).2 ⟨v.yn p hp, hpn, hpd⟩
          rw [hnil] at this; simp at this
        obtain ⟨h1, h2, h3⟩ := v.all hall
        exact hQ _ _ _ h1 h2 h3
      · obtain ⟨h1, h2, h3⟩ := (mem_ready v.sz).1 hi
        have ho : ops[i]? = some ops[i] := Array.getElem?_eq_getElem h1
        refine v.catch_up hok ho (hYall i h1) h2 (h3 _ ho) fun a' w' τ v' => ?_
        exact ihf [] _ _ _ _ _ _ _ _ _ _ v' hc hr' (by have := cnt_set v.sz h1 h2; omega)
    | cons e s ih =>
      obtain ⟨k, rc⟩ := e
      intro Y Z listed σ T h a w ids own v hc hr hn
      cases rc with
      | none =>
        unfold chkSched at hc
        unfold runSched at hr
        cases ho : ops[k]? with
        | none => simp [ho] at hc
        | some o =>
          simp only [ho, Bool.and_eq_true, Bool.not_eq_true', List.all_eq_true] at hc hr
          obtain ⟨⟨⟨h1, h2⟩, h3⟩, h4⟩ := hc
          split at hr
          · rename_i T1 k1 hone
            obtain ⟨ids', own', v'⟩ := v.advance h50 hok ho (by simpa using h1) h2 (fun d hd => by simpa using h3 d hd) hone
            exact ih _ _ _ _ _ _ _ _ _ _ v' h4 hr hn
          · cases hr
      | some rc =>
        have hc' := hc
        have hr' := hr
        unfold chkSched at hc
        unfold runSched at hr
        cases ho : ops[k]? with
        | none => simp [ho] at hc
        | some o =>
          simp only [ho, Bool.and_eq_true, Bool.not_eq_true', List.all_eq_true, Bool.or_eq_true] at hc hr
          obtain ⟨⟨⟨⟨⟨h1, h2⟩, h3⟩, h4⟩, h5⟩, h6⟩ := hc
          have hkY : k ∉ Y := by simpa using h1
          have hkX : ¬ InX listed k := fun h => hkY (v.xy k h)
          have hdY : ∀ d ∈ deps o, d ∈ Y := fun d hd => by simpa using h3 d hd
          refine ⟨fun hnil => ?_, fun i hi => ?_⟩
          · exfalso
            have hall : ∀ i ∈ Y, InX listed i := fun i hi => Classical.byContradiction fun hni => by
              obtain ⟨p, hp, hpn, hpd⟩ := v.ord.first (X := InX listed) ⟨i, hi, hni⟩
              have : p ∈ Region.ready .any ops listed := (mem_ready v.sz).2 ⟨v.yn p hp, hpn, hpd⟩
              rw [hnil] at this; simp at this
            have : k ∈ Region.ready .any ops listed := (mem_ready v.sz).2 ⟨lt_of ho, hkX, fun q hq d hd => by rw [ho] at hq; cases hq; exact hall d (hdY d hd)⟩
            rw [hnil] at this; simp at this
          · obtain ⟨q1, q2, q3⟩ := (mem_ready v.sz).1 hi
            by_cases hiY : i ∈ Y
            · have hoi : ops[i]? = some ops[i] := Array.getElem?_eq_getElem q1
              refine v.catch_up hok hoi hiY q2 (q3 _ hoi) fun a' w' τ v' => ?_
              exact ihf _ _ _ _ _ _ _ _ _ _ _ v' hc' hr' (by have := cnt_set v.sz q1 q2; omega)
            · have hik : i = k := by
                rcases h4 i (by rw [List.mem_range]; exact q1) with (h7 | h7) | h7
                · exact absurd (by simpa using h7) hiY
                · simpa using h7
                · exfalso
                  have hoi : ops[i]? = some ops[i] := Array.getElem?_eq_getElem q1
                  rw [hoi] at h7
                  simp only [Bool.not_eq_true', List.all_eq_false] at h7
                  obtain ⟨d, hd, hd2⟩ := h7
                  exact hd2 (by simpa using v.xy d (q3 _ hoi d hd))
              subst hik
              split at hr
              · rename_i T1 k1 hone
                split at hr
                · rename_i hst
                  refine v.step hF h50 hok ho hkY h2 (q3 _ ho) (rc := rc) (fun p hp => ?_) hone (fun p hp => by rw [List.all_eq_true] at hst; exact hst p hp) fun a' w' τ v' => ?_
                  · rcases h5 p hp with (h7 | h7) | h7
                    · exact .inl (by simpa using h7)
                    · exact .inr (.inl (by simpa using h7))
                    · refine .inr (.inr fun q hq => ?_)
                      rw [hq] at h7
                      simpa using h7
                  · exact ihf _ _ _ _ _ _ _ _ _ _ _ v' h6 hr (by have := cnt_set v.sz q1 q2; omega)
                · cases hr
              · cases hr

theorem region_sound (hm : P.follows .mixedOrders = true) (hF : CallSound P F) (h50 : nt < 2 ^ 50) {id : Nat} {draw : Bool} {h h' : H} {T' : Tr Value} (ht : TR σ nt T a) (g : G P B W σ h.heap w) (hr : region P F nt ops draw T h = some (T', h'))
    {Q : Exit → Act → World → Prop} (hQ : ∀ a' w' τ, TR τ nt T' a' → G P B W τ h'.heap w' → StepR σ h.heap τ h'.heap → Q .normal a' w') : (Code.region id ops draw).wp P Q a w := by
  unfold region at hr
  cases draw with
  | false =>
    simp only at hr
    refine wp_region (seq_sound hF h50 _ ops.toList σ T h a w ?_ ht g hr hQ)
    apply List.ext_getElem?
    intro i
    by_cases hi : i < ops.size
    · simp [hi]
    · simp [hi]
  | true =>
    simp only at hr
    split at hr
    · rename_i hok
      unfold drawOk at hok
      simp only [Bool.and_eq_true] at hok
      obtain ⟨⟨h1, h2⟩, _⟩ := hok
      refine wp_region_any hm ?_
      have hrep : ∀ i, ¬ InX (Array.replicate ops.size false) i := fun i hx => by
        unfold InX at hx
        rw [Array.getD_eq_getD_getElem?, Array.getElem?_replicate] at hx
        split at hx <;> simp at hx
      refine sched_sound (σ0 := σ) (h0 := h.heap) hF h50 h2 hQ ops.size _ [] [] _ σ T h a w.drew (fun _ => 0) (fun _ => none) ?_ h1 hr ?_
      · exact ⟨by simp, fun i hx => absurd hx (hrep i), fun i o hx => absurd hx (hrep i), trivial, fun i hi => by simp at hi, fun i hi => by simp at hi, fun i hi => by simp at hi, ht.size, ht.defers, fun t _ => ht.get t, g.drew, fun i o hi => by simp at hi, σ.le_refl, fun b o hb1 hb2 => ⟨hb1, hb2, rfl⟩⟩
      · unfold cnt
        exact Nat.le_trans (List.length_filter_le _ _) (by simp)
    · cases hr

/-! ### Code -/

def exOf : Ex → Exit
  | .normal => .normal
  | .exit id => .exit id
  | .ret => .ret

/-- A loop that ends within n rounds. -/
def LoopN (P : Program) (c : Code) (Q : Exit → Act → World → Prop) : Nat → Act → World → Prop
  | 0, _, _ => False
  | n + 1, a, w => c.wp P (Exit.then (LoopN P c Q n) Q) a w

theorem wp_loopN {c : Code} {Q : Exit → Act → World → Prop} {n : Nat} (h : LoopN P c Q n a w) : (Code.loop c).wp P Q a w := by
  intro b k cs
  have key : ∀ n a w, LoopN P c Q n a w → ∃ e a' w', Q e a' w' ∧ Arrives P (lone (b.at a (.code c :: .inLoop c :: k)) cs w) b k cs e a' w' := by
    intro n
    induction n with
    | zero => intro a w h; exact h.elim
    | succ n ih =>
      intro a w h
      obtain ⟨e, a₁, w₁, hq, harr⟩ := h b (.inLoop c :: k) cs
      cases e with
      | normal =>
        obtain ⟨e₂, a₂, w₂, hq₂, harr₂⟩ := ih a₁ w₁ hq
        exact ⟨e₂, a₂, w₂, hq₂, .of_steps (Steps.trans harr (.one step_inLoop)) harr₂⟩
      | exit id => exact ⟨_, a₁, w₁, hq, .pass (x := .inLoop c) rfl (fun _ _ => .inl (by simp)) harr⟩
      | goto l => exact ⟨_, a₁, w₁, hq, .pass (x := .inLoop c) rfl (fun _ _ => .inl (by simp)) harr⟩
      | ret => exact ⟨_, a₁, w₁, hq, .pass (x := .inLoop c) rfl (fun _ _ => .inl (by simp)) harr⟩
      | panic ch => exact ⟨_, a₁, w₁, hq, .pass (x := .inLoop c) rfl (fun _ _ => .inl (by simp)) harr⟩
      | outgrown => exact ⟨_, a₁, w₁, hq, .pass (x := .inLoop c) rfl (fun _ _ => .inl (by simp)) harr⟩
  obtain ⟨e, a', w', hq, harr⟩ := key _ a w h
  exact ⟨e, a', w', hq, .of_steps (.one step_loop) harr⟩
end Go.Proofs.YtjiekjfbllinbaaDoor.Rx
