/- A region that draws its order: whichever order comes up, the model does what the reader does in an order of its own. -/
import Derived.Test.YtjiekjfbllinbaaDoorRm
namespace Go.Proofs.YtjiekjfbllinbaaDoor.Rx
open Go
set_option linter.unusedSectionVars false
set_option linter.unusedVariables false
set_option linter.unusedSimpArgs false
variable [Opq] [Hints]
variable {P : Program} [HintsOk P] {ops : Array Oper}

def InX (listed : Array Bool) (i : Nat) : Prop := listed.getD i false = true

theorem inX_set {listed : Array Bool} {i j : Nat} (hi : i < listed.size) : InX (listed.setIfInBounds i true) j ↔ j = i ∨ InX listed j := by
  unfold InX
  simp only [Array.getD_eq_getD_getElem?, Array.getElem?_setIfInBounds]
  by_cases e : i = j
  · subst e; simp [hi]
  · simp only [e, if_false]
    constructor
    · exact .inr
    · rintro (h | h)
      · exact absurd h.symm e
      · exact h

theorem mem_ready {listed : Array Bool} (hs : listed.size = ops.size) {i : Nat} : i ∈ Region.ready .any ops listed ↔ i < ops.size ∧ ¬ InX listed i ∧ ∀ o, ops[i]? = some o → ∀ d ∈ deps o, InX listed d := by
  unfold Region.ready
  rw [List.mem_filter, List.mem_range]
  constructor
  · rintro ⟨hi, h⟩
    simp only [Bool.and_eq_true, Bool.not_eq_true'] at h
    obtain ⟨h1, h2⟩ := h
    refine ⟨hi, fun hx => ?_, fun o ho d hd => ?_⟩
    · unfold InX at hx
      rw [Array.getD_eq_getD_getElem?] at hx h1
      have : listed[i]? = some listed[i] := Array.getElem?_eq_getElem (by omega)
      rw [this] at hx h1
      simp_all
    · rw [ho] at h2
      simp only [Option.map_some, Option.getD_some, Array.all_eq_true_iff_forall_mem] at h2
      unfold deps at hd
      rw [List.mem_map] at hd
      obtain ⟨e, he, rfl⟩ := hd
      rw [List.mem_filter] at he
      have := h2 e (by simpa using he.1)
      rw [he.2] at this
      simpa [InX] using this
  · rintro ⟨hi, h1, h2⟩
    refine ⟨hi, ?_⟩
    have hg : listed[i]? = some listed[i] := Array.getElem?_eq_getElem (by omega)
    have ho : ops[i]? = some ops[i] := Array.getElem?_eq_getElem hi
    simp only [Bool.and_eq_true, Bool.not_eq_true']
    constructor
    · unfold InX at h1
      rw [Array.getD_eq_getD_getElem?, hg] at h1 ⊢
      simpa using h1
    · rw [ho]
      simp only [Option.map_some, Option.getD_some, Array.all_eq_true_iff_forall_mem]
      intro e he
      cases hb : Region.binds .any e with
      | false => simp
      | true =>
        have := h2 _ ho e.on (by unfold deps; rw [List.mem_map]; exact ⟨e, by rw [List.mem_filter]; exact ⟨by simpa using he, hb⟩, rfl⟩)
        simpa [InX] using this

def cnt (ops : Array Oper) (listed : Array Bool) : Nat := ((List.range ops.size).filter fun i => !listed.getD i false).length

theorem cnt_set {listed : Array Bool} {i : Nat} (hs : listed.size = ops.size) (hi : i < ops.size) (hx : ¬ InX listed i) : cnt ops (listed.setIfInBounds i true) < cnt ops listed := by
  unfold cnt
  have e : ((List.range ops.size).filter fun j => !(listed.setIfInBounds i true).getD j false) = ((List.range ops.size).filter fun j => !listed.getD j false).filter fun j => decide (j ≠ i) := by
    rw [List.filter_filter]
    congr 1
    funext j
    have := inX_set (listed := listed) (i := i) (j := j) (by omega)
    unfold InX at this
    by_cases h1 : j = i
    · simp only [h1, true_or, iff_true] at this; simp [h1, this]
    · simp only [h1, false_or] at this
      cases h2 : listed.getD j false <;> cases h3 : (listed.setIfInBounds i true).getD j false <;> simp_all
  rw [e, List.length_filter_lt_length_iff_exists]
  refine ⟨i, ?_, by simp⟩
  rw [List.mem_filter, List.mem_range]
  refine ⟨hi, ?_⟩
  unfold InX at hx
  simpa using hx

/-- Each stands behind those that it waits for. -/
def Ord (ops : Array Oper) : List Nat → Prop
  | [] => True
  | i :: Y => (∀ o, ops[i]? = some o → ∀ d ∈ deps o, d ∈ Y) ∧ Ord ops Y

theorem Ord.deps {Y : List Nat} (h : Ord ops Y) : ∀ {i : Nat}, i ∈ Y → ∀ o, ops[i]? = some o → ∀ d ∈ deps o, d ∈ Y := by
  induction Y with
  | nil => intro i hi; simp at hi
  | cons k Y ih =>
    intro i hi o ho d hd
    rcases List.mem_cons.1 hi with rfl | hi
    · exact List.mem_cons_of_mem _ (h.1 o ho d hd)
    · exact List.mem_cons_of_mem _ (ih h.2 hi o ho d hd)

theorem Ord.first {X : Nat → Prop} {Y : List Nat} (h : Ord ops Y) (hx : ∃ i ∈ Y, ¬ X i) : ∃ i ∈ Y, ¬ X i ∧ ∀ o, ops[i]? = some o → ∀ d ∈ Rx.deps o, X d := by
  induction Y with
  | nil => obtain ⟨i, hi, _⟩ := hx; simp at hi
  | cons k Y ih =>
    by_cases hY : ∃ i ∈ Y, ¬ X i
    · obtain ⟨i, h1, h2⟩ := ih h.2 hY; exact ⟨i, List.mem_cons_of_mem _ h1, h2⟩
    · obtain ⟨i, hi, hn⟩ := hx
      rcases List.mem_cons.1 hi with rfl | hi
      · exact ⟨i, by simp, hn, fun o ho d hd => Classical.byContradiction fun hd' => hY ⟨d, h.1 o ho d hd, hd'⟩⟩
      · exact absurd ⟨i, hi, hn⟩ hY

theorem settle_sub {X : Nat → Prop} (hd : ∀ i o, X i → ops[i]? = some o → ∀ d ∈ deps o, X d) {Z : List Nat} {j : Nat} (hZ : ∀ i ∈ Z, X i) (hj : X j) : ∀ i ∈ settle ops Z j, X i := by
  unfold settle
  have : ∀ (l : List Nat) (A : List Nat), (∀ i ∈ A, X i) → ∀ i ∈ l.foldl (fun Z i => if Z.contains i then match ops[i]? with | some o => deps o ++ Z | none => Z else Z) A, X i := by
    intro l
    induction l with
    | nil => intro A hA i hi; exact hA i hi
    | cons k l ih =>
      intro A hA
      simp only [List.foldl_cons]
      refine ih _ ?_
      split
      · rename_i hk
        have hXk := hA k (by simpa using hk)
        split
        · rename_i o ho
          intro i hi
          rcases List.mem_append.1 hi with hi | hi
          · exact hd k o hXk ho i hi
          · exact hA i hi
        · exact hA
      · exact hA
  refine this _ _ fun i hi => ?_
  rcases List.mem_cons.1 hi with rfl | hi
  · exact hj
  · exact hZ i hi

theorem tmpsOk_get (h : tmpsOk ops = true) {i j : Nat} {o q : Oper} {d : Tmp} (ho : ops[i]? = some o) (hd : o.dst = some d) (hq : ops[j]? = some q) :
    (i = j ∨ q.dst ≠ some d) ∧ (d ∈ looks ops q → (i ∈ deps q ∧ i ≠ j) ∨ (sync ops i = true ∧ (i = j ∨ j ∈ settle ops [] i))) := by
  have lt : ∀ {k : Nat} {x : Oper}, ops[k]? = some x → k < ops.size := fun {k x} h => by
    rcases Nat.lt_or_ge k ops.size with h1 | h1
    · exact h1
    · rw [Array.getElem?_eq_none h1] at h; cases h
  unfold tmpsOk at h
  rw [List.all_eq_true] at h
  have h1 := h i (by rw [List.mem_range]; exact lt ho)
  rw [ho] at h1
  simp only [hd] at h1
  rw [List.all_eq_true] at h1
  have h2 := h1 j (by rw [List.mem_range]; exact lt hq)
  rw [hq] at h2
  simp only [Bool.and_eq_true, Bool.or_eq_true, beq_iff_eq, bne_iff_ne, ne_eq, Bool.not_eq_true', decide_eq_true_eq, List.contains_iff_mem] at h2
  obtain ⟨h3, h4⟩ := h2
  refine ⟨h3, fun hm => ?_⟩
  rcases h4 with (h4 | h4) | h4
  · exfalso
    have : (looks ops q).contains d = true := by simpa using hm
    rw [this] at h4; cases h4
  · exact .inl h4
  · exact .inr h4

def effVal : Eff → Value
  | .val v => v
  | .new v _ => v

/-- The reader has carried it out, the model has not yet. -/
def Pend (P : Program) (ops : Array Oper) (nt : Nat) (σ : Rho) (T : Tr Value) (h : Tr AObj) (ids : Nat → Nat) (own : Nat → Option Nat) (i : Nat) (o : Oper) : Prop :=
  (∀ d, o.dst = some d → d < nt) ∧
  ((wantedT T ops o = some false ∧ ∀ d, o.dst = some d → T.get d = some undef) ∨
   (wantedT T ops o = some true ∧ ∃ e, eag P o (evH T h) h (ids i) = some e ∧ (∀ d, o.dst = some d → T.get d = some (effVal e)) ∧
      ∀ v ob, e = .new v ob → h.get (ids i) = some ob ∧ σ (ids i) = none ∧ own (ids i) = some i))

structure Inv (P : Program) (ops : Array Oper) (B : Nat) (W : World) (nt : Nat) (σ0 : Rho) (h0 : Tr AObj) (listed : Array Bool) (Y Z : List Nat) (σ : Rho) (T : Tr Value) (h : Tr AObj) (a : Act) (w : World) (ids : Nat → Nat) (own : Nat → Option Nat) : Prop where
  sz : listed.size = ops.size
  xy : ∀ i, InX listed i → i ∈ Y
  xdown : ∀ i o, InX listed i → ops[i]? = some o → ∀ d ∈ deps o, InX listed d
  ord : Ord ops Y
  yn : ∀ i ∈ Y, i < ops.size
  sy : ∀ i ∈ Y, sync ops i = true → InX listed i
  zx : ∀ i ∈ Z, InX listed i
  asz : a.tmps.size = nt
  adef : a.defers = []
  tmps : ∀ t, (∀ i o, i ∈ Y → ¬ InX listed i → ops[i]? = some o → o.dst ≠ some t) → VR σ ((T.get t).getD undef) (a.tmps.getD t undef)
  g : G P B W σ h w
  pend : ∀ i o, i ∈ Y → ¬ InX listed i → ops[i]? = some o → Pend P ops nt σ T h ids own i o
  le0 : σ0.le σ
  st0 : ∀ b o, σ0 b = none → h0.get b = some o → σ b = none ∧ h.get b = some o ∧ own b = none

section
variable {B nt : Nat} {W w : World} {σ0 σ : Rho} {h0 : Tr AObj} {listed : Array Bool} {Y Z : List Nat} {T : Tr Value} {a : Act} {ids : Nat → Nat} {own : Nat → Option Nat}

theorem lt_of {k : Nat} {x : Oper} (h : ops[k]? = some x) : k < ops.size := by
  rcases Nat.lt_or_ge k ops.size with h1 | h1
  · exact h1
  · rw [Array.getElem?_eq_none h1] at h; cases h

/-- What an operation that may come up looks at is there in the model. -/
theorem Inv.looks {h : Tr AObj} (v : Inv P ops B W nt σ0 h0 listed Y Z σ T h a w ids own) (hok : tmpsOk ops = true) {i : Nat} {o : Oper} (ho : ops[i]? = some o) (hd : ∀ d ∈ deps o, InX listed d) :
    ∀ d ∈ looks ops o, VR σ ((T.get d).getD undef) (a.tmps.getD d undef) := by
  intro d hm
  refine v.tmps d fun p q hp hnx hq hdst => ?_
  obtain ⟨_, h2⟩ := tmpsOk_get hok hq hdst ho
  rcases h2 hm with ⟨h3, _⟩ | ⟨h3, _⟩
  · exact hnx (hd p h3)
  · exact hnx (v.sy p hp h3)

theorem put_get {dst : Option Tmp} {v : Value} {t : Tmp} (h : dst ≠ some t) : (a.put dst v).tmps.getD t undef = a.tmps.getD t undef := by
  cases dst with
  | none => rfl
  | some d =>
    have : d ≠ t := fun e => h (by rw [e])
    simp only [Act.put, Array.getD_eq_getD_getElem?]
    rw [Array.getElem?_setIfInBounds_ne this]
theorem put_same {d : Tmp} {v : Value} (h : d < a.tmps.size) : (a.put (some d) v).tmps.getD d undef = v := by
  simp [Act.put, Array.getD, h]
theorem put_size {dst : Option Tmp} {v : Value} : (a.put dst v).tmps.size = a.tmps.size := by cases dst <;> simp [Act.put]
theorem put_defs {dst : Option Tmp} {v : Value} : (a.put dst v).defers = a.defers := by cases dst <;> rfl

theorem putT_get {T' : Tr Value} {dst : Option Tmp} {v : Value} {t : Tmp} (hp : putT nt T dst v = some T') (h : dst ≠ some t) : T'.get t = T.get t := by
  unfold putT at hp
  cases dst with
  | none => cases hp; rfl
  | some d =>
    simp only at hp
    split at hp
    · cases hp; exact Tr.get_set_other _ _ _ _ _ (fun e => h (by rw [e]))
    · cases hp
theorem putT_same {T' : Tr Value} {d : Tmp} {v : Value} (h50 : nt < 2 ^ 50) (hp : putT nt T (some d) v = some T') : T'.get d = some v ∧ d < nt := by
  unfold putT at hp
  simp only at hp
  split at hp
  · rename_i hd; cases hp; exact ⟨Tr.get_set_same _ _ _ _ (two50 (Nat.lt_trans hd h50)), hd⟩
  · cases hp

/-- The model carries out what the reader has carried out already. -/
theorem Inv.catch_up {h : Tr AObj} (v : Inv P ops B W nt σ0 h0 listed Y Z σ T h a w ids own) (hok : tmpsOk ops = true) {i : Nat} {o : Oper} (ho : ops[i]? = some o) (hY : i ∈ Y) (hnx : ¬ InX listed i) (hd : ∀ d ∈ deps o, InX listed d)
    {Q : Exit → Act → World → Prop} {K : Act → World → Prop}
    (hK : ∀ a' w' τ, Inv P ops B W nt σ0 h0 (listed.setIfInBounds i true) Y Z τ T h a' w' ids own → K a' w') : wpOp P ops Q i K a w := by
  have hlk := v.looks hok ho hd
  have hE : Ops (evH T h) σ a.eval o.op.operands := ops_of (h := ⟨h, 0⟩) (fun x hx t ht => hlk t (by
    subst ht
    unfold Rx.looks
    refine List.mem_append.2 (.inl ?_)
    rw [List.mem_filterMap]
    exact ⟨_, by simpa using hx, rfl⟩)) v.g
  have hG : ∀ j q d, o.guard.map (·.1) = some j → ops[j]? = some q → q.dst = some d → VR σ ((T.get d).getD undef) (a.tmps.getD d undef) := fun j q d hj hq hd => hlk d (by
    unfold Rx.looks
    refine List.mem_append.2 (.inr ?_)
    cases hgd : o.guard with
    | none => simp [hgd] at hj
    | some jw => obtain ⟨j', w'⟩ := jw; simp [hgd] at hj; subst hj; simp [hq, hd])
  have hlt : i < listed.size := by rw [v.sz]; exact lt_of ho
  have hx : ∀ j, InX (listed.setIfInBounds i true) j ↔ j = i ∨ InX listed j := fun j => inX_set hlt
  -- what stays, whatever comes of it
  have mk : ∀ (u u' : Value) (w' : World) (τ : Rho), σ.le τ → (∀ d, o.dst = some d → T.get d = some u ∧ d < nt) → VR τ u u' → G P B W τ h w' → (∀ b q, σ0 b = none → h0.get b = some q → τ b = none ∧ h.get b = some q ∧ own b = none) →
      (∀ j q, j ∈ Y → ¬ InX listed j → j ≠ i → ops[j]? = some q → Pend P ops nt τ T h ids own j q) → Inv P ops B W nt σ0 h0 (listed.setIfInBounds i true) Y Z τ T h (a.put o.dst u') w' ids own := by
    intro u u' w' τ hle hu hv hg hst hp
    refine ⟨by simp [v.sz], fun j hj => ?_, fun j q hj hq d hd' => ?_, v.ord, v.yn, fun j hj hs => (hx j).2 (.inr (v.sy j hj hs)), fun j hj => (hx j).2 (.inr (v.zx j hj)), by rw [put_size]; exact v.asz, by rw [put_defs]; exact v.adef, fun t ht => ?_, hg, fun j q hj hn hq => ?_, Rho.le_trans v.le0 hle, hst⟩
    · rcases (hx j).1 hj with rfl | hj
      · exact hY
      · exact v.xy j hj
    · rcases (hx j).1 hj with rfl | hj
      · rw [ho] at hq; cases hq; exact (hx d).2 (.inr (hd d hd'))
      · exact (hx d).2 (.inr (v.xdown j q hj hq d hd'))
    · by_cases hdst : o.dst = some t
      · obtain ⟨h1, h2⟩ := hu t hdst
        rw [h1, hdst, put_same (by rw [v.asz]; exact h2)]
        exact hv
      · rw [put_get hdst]
        refine (v.tmps t fun j q hj hn hq hqd => ?_).mono hle
        by_cases e : j = i
        · subst e; rw [ho] at hq; cases hq; exact hdst hqd
        · exact ht j q hj (fun hh => by rcases (hx j).1 hh with hh | hh; exact e hh; exact hn hh) hq hqd
    · exact hp j q hj (fun hh => hn ((hx j).2 (.inr hh))) (fun e => hn ((hx j).2 (.inl e))) hq
  unfold wpOp
  simp only [ho]
  obtain ⟨hnt, hp⟩ := v.pend i o hY hnx ho
  rcases hp with ⟨hw, hu⟩ | ⟨hw, e, he, hu, hnew⟩
  · rw [wanted_sound hG hw]
    simp only [Bool.false_eq_true, if_false]
    exact hK _ _ σ (mk undef undef w σ σ.le_refl (fun d hd => ⟨hu d hd, hnt d hd⟩) undef_self v.g v.st0 fun j q hj hn _ hq => v.pend j q hj hn hq)
  · rw [wanted_sound hG hw]
    simp only [if_true]
    refine .inl ?_
    have hs := eag_sound v.g hE he
    cases e with
    | val u =>
      obtain ⟨u', hr, hv⟩ := hs
      unfold Oper.wp
      rw [hr]
      exact hK _ _ σ (mk u u' w σ σ.le_refl (fun d hd => ⟨hu d hd, hnt d hd⟩) hv v.g v.st0 fun j q hj hn _ hq => v.pend j q hj hn hq)
    | new u ob =>
      obtain ⟨u', ob', hr, hrel, hm⟩ := hs
      obtain ⟨hid, hsi, how⟩ := hnew u ob rfl
      have hle := Rho.le_put (x := (w.heap.size, none)) hsi
      obtain ⟨hv, hob⟩ := hrel _ hle (Rho.put_same _ _ _)
      unfold Oper.wp
      rw [hr]
      refine hK _ _ _ (mk u u' _ _ hle (fun d hd => ⟨hu d hd, hnt d hd⟩) hv (v.g.adopt hid hsi hm hob) ?_ ?_)
      · intro b q h1 h2
        obtain ⟨h3, h4, h5⟩ := v.st0 b q h1 h2
        have : b ≠ ids i := fun e => by rw [e, how] at h5; cases h5
        exact ⟨by rw [Rho.put_other _ _ this]; exact h3, h4, h5⟩
      · intro j q hj hn hji hq
        obtain ⟨hnt', hp'⟩ := v.pend j q hj hn hq
        refine ⟨hnt', ?_⟩
        rcases hp' with h1 | ⟨h1, e', h2, h3, h4⟩
        · exact .inl h1
        · refine .inr ⟨h1, e', h2, h3, fun u2 ob2 h5 => ?_⟩
          obtain ⟨h6, h7, h8⟩ := h4 u2 ob2 h5
          have : ids j ≠ ids i := fun e => by rw [e, how] at h8; cases h8; exact hji rfl
          exact ⟨h6, by rw [Rho.put_other _ _ this]; exact h7, h8⟩
end
end Go.Proofs.YtjiekjfbllinbaaDoor.Rx
