/- What a quiet operation hangs on. -/
import Derived.Test.YtjiekjfbllinbaaDoorRl
namespace Go.Proofs.YtjiekjfbllinbaaDoor.Rx
open Go
set_option linter.unusedSectionVars false
set_option linter.unusedVariables false
set_option linter.unusedSimpArgs false
variable [Opq] [Hints]
variable {P : Program} [HintsOk P]

def Agree (E E' : Ev) (l : Array Operand) : Prop := ∀ x ∈ l, E x = E' x

theorem evAll_congr {E E' : Ev} : ∀ {l : List Operand}, (∀ x ∈ l, E x = E' x) → evAll E l = evAll E' l
  | [], _ => rfl
  | x :: l, h => by unfold evAll; rw [h x (by simp), evAll_congr fun y hy => h y (by simp [hy])]
theorem evParts_congr {E E' : Ev} : ∀ {l : List (Nat × Operand)}, (∀ x ∈ l.map (·.2), E x = E' x) → evParts E l = evParts E' l
  | [], _ => rfl
  | (i, x) :: l, h => by unfold evParts; rw [h x (by simp), evParts_congr fun y hy => h y (by simp only [List.map_cons, List.mem_cons]; exact .inr hy)]
theorem flatOps_congr {E E' : Ev} : ∀ {l : List Operand}, (∀ x ∈ l, E x = E' x) → flatOps E l = flatOps E' l
  | [], _ => rfl
  | x :: l, h => by unfold flatOps; rw [h x (by simp), flatOps_congr fun y hy => h y (by simp [hy])]
theorem optFlat_congr {E E' : Ev} {x : Option Operand} (h : ∀ y, x = some y → E y = E' y) : optFlat E x = optFlat E' x := by
  cases x with
  | none => rfl
  | some y => simp only [optFlat]; rw [h y rfl]
theorem flatRule_congr {E E' : Ev} {o : Oper} (h : Agree E E' o.op.operands) : flatRule P o E = flatRule P o E' := by
  unfold flatRule
  rw [flatOps_congr (E' := E') fun x hx => h x (by simpa using hx)]
  by_cases hs : ∃ cs b, o.op = .select cs b
  · obtain ⟨cs, b, hs⟩ := hs; simp [hs]
  · have : execOp (fun x => (E x).getD undef) o = execOp (fun x => (E' x).getD undef) o := execOp_congr o (fun cs b he => hs ⟨cs, b, he⟩) fun x hx => by show (E x).getD undef = (E' x).getD undef; rw [h x hx]
    rw [this]

set_option maxHeartbeats 1000000 in
theorem eag_congr {E E' : Ev} {o : Oper} {h : Tr AObj} {id : Nat} (hE : Agree E E' o.op.operands) : eag P o E h id = eag P o E' h id := by
  have hfl : flatRule P o E = flatRule P o E' := flatRule_congr hE
  cases hop : o.op <;> (try (simp only [eag, eagPick, eagAlloc, eagBox, eagBuild, eagBuildSlice, eagLoad, eagNil, eagFieldAddr, eagField, eagIndexAddr, eagIndex, eagIface, eagFunc, eagMakeMap, eagMakeSlice, eagSlice, eagLookup, eagAssert, eagExtract, eagBin, eagBin0, eagUn, eagConv, eagLen, eagCall, hop]; exact hfl)) <;> simp only [hop, Op.operands] at hE <;> simp only [eag, eagPick, eagAlloc, eagBox, eagBuild, eagBuildSlice, eagLoad, eagNil, eagFieldAddr, eagField, eagIndexAddr, eagIndex, eagIface, eagFunc, eagMakeMap, eagMakeSlice, eagSlice, eagLookup, eagAssert, eagExtract, eagBin, eagBin0, eagUn, eagConv, eagLen, eagCall, hop, hfl]
  case move x => rw [hE x (by simp)]
  case assign x => rw [hE x (by simp)]
  case pick c a b => rw [hE c (by simp), hE a (by simp), hE b (by simp)]
  case box t x => rw [hE x (by simp)]
  case build t parts => rw [evParts_congr fun x hx => hE x (by simpa using hx)]
  case buildSlice t n parts => rw [evParts_congr fun x hx => hE x (by simpa using hx)]
  case load t a => rw [hE a (by simp)]
  case nilCheck x => rw [hE x (by simp)]
  case binOp op t x y t2 => simp only [hE x (by simp), hE y (by simp)]
  case unOp op t x => cases op <;> simp only [hE x (by simp)]
  case convert s t x => simp only [hE x (by simp)]
  case makeInterface t x => rw [hE x (by simp)]
  case makeFunc fn first captured =>
    rw [evAll_congr (l := first.toList) (E' := E') fun x hx => hE x (by simp at hx ⊢; exact .inl hx), evAll_congr (l := captured.toList) (E' := E') fun x hx => hE x (by simp at hx ⊢; exact .inr hx)]
  case makeMap t r => cases r with
    | none => rfl
    | some x => simp only; rw [hE x (by simp)]
  case makeSlice t l c => rw [hE l (by simp), hE c (by simp)]
  case slice t x lo hi mx =>
    rw [hE x (by simp), optFlat_congr (x := lo) (E' := E') fun y hy => hE y (by simp [hy]), optFlat_congr (x := hi) (E' := E') fun y hy => hE y (by simp [hy]), optFlat_congr (x := mx) (E' := E') fun y hy => hE y (by simp [hy])]
  case fieldAddr s x i => rw [hE x (by simp)]
  case field s x i => rw [hE x (by simp)]
  case indexAddr t x ix => rw [hE x (by simp), hE ix (by simp)]
  case index t x ix => rw [hE x (by simp), hE ix (by simp)]
  case lookup t x ix ok => rw [hE x (by simp), hE ix (by simp)]
  case typeAssert x xt t ok => rw [hE x (by simp)]
  case extract x i => rw [hE x (by simp)]
  case call c =>
    obtain ⟨callee, args, ts⟩ := c
    cases callee with
    | value f => rfl
    | invoke r m => rfl
    | builtin b =>
      cases b <;> try rfl
      simp only
      cases hx : args[0]? with
      | none => cases ts[0]? <;> rfl
      | some x =>
        have : E x = E' x := hE x (Array.mem_append.2 (.inr (Array.mem_of_getElem? hx)))
        cases ts[0]? with
        | none => rfl
        | some t => simp only; rw [this]

/-- Does a quiet operation ask for a block? -/
def asks (o : Op) : Bool := match o with
  | .load .. | .lookup .. | .slice .. => true
  | .call _ => true
  | _ => false
theorem heapful_asks {o : Op} (h : heapful o = false) : asks o = false ∧ hasGlobal o = false := by
  unfold heapful at h
  simp only [Bool.or_eq_false_iff] at h
  exact ⟨by unfold asks; exact h.2, h.1⟩

theorem eag_heapless {E : Ev} {o : Oper} {h h' : Tr AObj} {id : Nat} (ho : asks o.op = false) : eag P o E h id = eag P o E h' id := by
  cases hop : o.op <;> simp only [hop, asks, reduceCtorEq, Bool.true_eq_false] at ho <;> simp only [eag, eagPick, eagAlloc, eagBox, eagBuild, eagBuildSlice, eagLoad, eagNil, eagFieldAddr, eagField, eagIndexAddr, eagIndex, eagIface, eagFunc, eagMakeMap, eagMakeSlice, eagSlice, eagLookup, eagAssert, eagExtract, eagBin, eagBin0, eagUn, eagConv, eagLen, eagCall, hop]

structure Ext (h h' : Tr AObj) : Prop where
  get : ∀ b o, h.get b = some o → h'.get b = some o
  glob : ∀ b c e, h'.get b = some (.glob c e) → h.get b = some (.glob c e)

theorem lookupAt_ext {h h' : Tr AObj} (x : Ext h h') {t : TypeId} {r : Nat} {k v : Value} {ok : Bool} (hl : lookupAt P t h r k ok = some v) : lookupAt P t h' r k ok = some v := by
  unfold lookupAt at hl ⊢
  split at hl
  · split at hl
    · rename_i es hb; simp only [x.get _ _ hb]; exact hl
    · cases hl
  · cases hl

theorem eag_ext {E : Ev} {o : Oper} {h h' : Tr AObj} {id : Nat} {e : Eff} (x : Ext h h') (he : eag P o E h id = some e) : eag P o E h' id = some e := by
  by_cases ha : asks o.op = false
  · rw [← eag_heapless (h := h) ha]; exact he
  · cases hop : o.op <;> simp only [hop, asks, not_true_eq_false, not_false_eq_true] at ha <;> simp only [eag, eagPick, eagAlloc, eagBox, eagBuild, eagBuildSlice, eagLoad, eagNil, eagFieldAddr, eagField, eagIndexAddr, eagIndex, eagIface, eagFunc, eagMakeMap, eagMakeSlice, eagSlice, eagLookup, eagAssert, eagExtract, eagBin, eagBin0, eagUn, eagConv, eagLen, eagCall, hop] at he ⊢
    case load t a =>
      split at he
      · split at he
        · rename_i hb; simp only [x.get _ _ hb]; exact he
        · rename_i hb; simp only [x.get _ _ hb]; exact he
        · cases he
      · cases he
    case slice t y lo hi mx =>
      split at he
      · split at he
        · rename_i hb h1 h2 h3; simp only [x.get _ _ hb, h1, h2, h3]; exact he
        · rename_i hb h1 h2 h3; simp only [x.get _ _ hb, h1, h2, h3]; exact he
        · cases he
      · exact he
    case lookup t y ix ok =>
      split at he
      · obtain ⟨v, hv, rfl⟩ := map_some_inv he; rw [lookupAt_ext x hv]; rfl
      · exact he
    case call c =>
      obtain ⟨callee, args, ts⟩ := c
      cases callee with
      | value f => exact he
      | invoke r m => exact he
      | builtin b =>
        cases b <;> try exact he
        simp only at he ⊢
        split at he
        · split at he
          · exact he
          · split at he
            · rename_i hb; simp only [x.get _ _ hb]; exact he
            · cases he
          · exact he
        · cases he

theorem eag_id {E : Ev} {o : Oper} {h : Tr AObj} {id id' : Nat} {v : Value} (he : eag P o E h id = some (.val v)) : eag P o E h id' = some (.val v) := by
  cases hop : o.op <;> simp only [eag, eagPick, eagAlloc, eagBox, eagBuild, eagBuildSlice, eagLoad, eagNil, eagFieldAddr, eagField, eagIndexAddr, eagIndex, eagIface, eagFunc, eagMakeMap, eagMakeSlice, eagSlice, eagLookup, eagAssert, eagExtract, eagBin, eagBin0, eagUn, eagConv, eagLen, eagCall, hop] at he ⊢ <;> try exact he
  case alloc => split at he <;> cases he
  case box => split at he <;> cases he
  case buildSlice =>
    split at he
    · split at he
      · split at he
        · cases he
        · split at he
          · cases he
          · split at he
            · cases he
            · split at he <;> cases he
      · cases he
    · cases he
  case makeMap t r => cases r with
    | none => cases he
    | some x => simp only at he; split at he <;> cases he
  case makeSlice =>
    split at he
    · split at he
      · split at he <;> cases he
      · cases he
    · cases he

theorem flatRule_val {E : Ev} {o : Oper} {v : Value} {ob : AObj} (h : flatRule P o E = some (.new v ob)) : False := by
  unfold flatRule at h
  split at h
  · cases h
  · split at h
    · cases h
    · split at h
      · split at h <;> cases h
      · cases h
theorem map_val {x : Option Value} {v : Value} {ob : AObj} (h : x.map Eff.val = some (.new v ob)) : False := by cases x <;> cases h

theorem bin0_val {E : Ev} {o : Oper} {op : BinOp} {t : TypeId} {x y : Operand} {v : Value} {ob : AObj} (he : eagBin0 P o E op t x y = some (.new v ob)) : False := by
  unfold eagBin0 at he
  cases op <;> (try exact flatRule_val he) <;> simp only at he
  · split at he
    · split at he
      · cases he
      · exact flatRule_val he
    · cases he
  · split at he
    · split at he
      · cases he
      · exact flatRule_val he
    · cases he
theorem bin_val {E : Ev} {o : Oper} {op : BinOp} {t : TypeId} {x y : Operand} {v : Value} {ob : AObj} (he : eagBin P o E op t x y = some (.new v ob)) : False := by
  unfold eagBin at he
  split at he
  · split at he
    · split at he
      · cases he
      · split at he
        · cases he
        · exact bin0_val he
    · cases he
  · cases he

theorem eag_mine {E : Ev} {o : Oper} {h : Tr AObj} {id : Nat} {v : Value} {ob : AObj} (he : eag P o E h id = some (.new v ob)) : ob.mine := by
  cases hop : o.op <;> simp only [eag, eagPick, eagAlloc, eagBox, eagBuild, eagBuildSlice, eagLoad, eagNil, eagFieldAddr, eagField, eagIndexAddr, eagIndex, eagIface, eagFunc, eagMakeMap, eagMakeSlice, eagSlice, eagLookup, eagAssert, eagExtract, eagUn, eagConv, eagLen, eagCall, hop] at he <;> first
    | exact (flatRule_val he).elim
    | exact (map_val he).elim
    | skip
  case alloc => split at he <;> cases he; trivial
  case box => split at he <;> cases he; trivial
  case buildSlice =>
    split at he
    · split at he
      · split at he
        · cases he
        · split at he
          · cases he
          · split at he
            · cases he
            · split at he <;> cases he; trivial
      · cases he
    · cases he
  case makeMap t r => cases r with
    | none => cases he; trivial
    | some x => simp only at he; split at he <;> cases he; trivial
  case makeSlice =>
    split at he
    · split at he
      · split at he <;> cases he; trivial
      · cases he
    · cases he
  case binOp op t x y t2 => exact (bin_val he).elim
  case call c =>
    exfalso
    obtain ⟨callee, args, ts⟩ := c
    cases callee with
    | value f => exact flatRule_val he
    | invoke r m => exact flatRule_val he
    | builtin b =>
      cases b <;> (try exact flatRule_val he) <;> simp only at he
      split at he
      · split at he
        · cases he
        · split at he <;> cases he
        · exact flatRule_val he
      · cases he
  all_goals
    exfalso
    repeat' (first | exact flatRule_val he | exact map_val he | (cases he; done) | split at he)
  all_goals (simp only [Option.map_eq_some_iff, reduceCtorEq, and_false, exists_false] at he)

theorem evH_ext {T T' : Tr Value} {h h' : Tr AObj} (x : Ext h h') {l : Array Operand} (ht : ∀ y ∈ l, ∀ t, y = .tmp t → T'.get t = T.get t) : Agree (evH T h) (evH T' h') l := by
  intro y hy
  cases y with
  | tmp t => simp only [evH]; rw [ht _ hy t rfl]
  | const c => rfl
  | func f => rfl
  | global g =>
    simp only [evH]
    cases hb : h.get g with
    | none =>
      cases hb' : h'.get g with
      | none => rfl
      | some o' => cases o' <;> first | rfl | (rw [x.glob _ _ _ hb'] at hb; cases hb)
    | some o => rw [x.get _ _ hb]
theorem evH_noGlobal {T T' : Tr Value} {h h' : Tr AObj} {o : Op} (hg : hasGlobal o = false) (ht : ∀ y ∈ o.operands, ∀ t, y = .tmp t → T'.get t = T.get t) : Agree (evH T h) (evH T' h') o.operands := by
  intro y hy
  cases y with
  | tmp t => simp only [evH]; rw [ht _ hy t rfl]
  | const c => rfl
  | func f => rfl
  | global g =>
    exfalso
    unfold hasGlobal at hg
    rw [List.any_eq_false] at hg
    exact hg _ (by simpa using hy) rfl

theorem wantedT_congr {T T' : Tr Value} {ops : Array Oper} {o : Oper} (h : ∀ d ∈ looks ops o, T'.get d = T.get d) : wantedT T' ops o = wantedT T ops o := by
  unfold wantedT
  cases hg : o.guard with
  | none => rfl
  | some jw =>
    obtain ⟨j, w⟩ := jw
    simp only
    cases hq : ops[j]? with
    | none => rfl
    | some q =>
      simp only
      cases hd : q.dst with
      | none => rfl
      | some d =>
        simp only
        rw [h d (by unfold looks; exact List.mem_append.2 (.inr (by simp [hg, hq, hd])))]

variable {σ : Rho} {w W : World} {B : Nat}

/-- A block that the reader has and the model has not got yet. -/
theorem G.extra {h : Tr AObj} (g : G P B W σ h w) {id : Nat} {o : AObj} (hid : h.get id = none) (h50 : id < 2 ^ 50) (hm : o.mine) : G P B W σ (h.set 60 id o) w ∧ Ext h (h.set 60 id o) ∧ σ id = none := by
  have hs : σ id = none := by
    cases hx : σ id with
    | none => rfl
    | some x => obtain ⟨q, hq⟩ := g.dom id x hx; rw [hid] at hq; cases hq
  have hsame : (h.set 60 id o).get id = some o := Tr.get_set_same _ _ _ _ (two50 h50)
  have hoth : ∀ j, j ≠ id → (h.set 60 id o).get j = h.get j := fun j hj => Tr.get_set_other _ _ _ _ _ hj
  have hne : ∀ {c x}, σ c = some x → c ≠ id := fun hc e => by subst e; rw [hs] at hc; cases hc
  refine ⟨⟨?_, ?_, ?_, ?_, ?_, g.base, g.below⟩, ⟨?_, ?_⟩, hs⟩
  · intro c c' l p hc hp hl; rw [hoth c (hne hc)] at hp; exact g.obj _ _ _ _ hc hp hl
  · intro c x hc; rw [hoth c (hne hc)]; exact g.dom c x hc
  · intro c d c' l l' p q h1 h2 h3 h4 h5 h6
    rw [hoth c (hne h1)] at h3
    rw [hoth d (hne h2)] at h5
    exact g.inj _ _ _ _ _ _ _ h1 h2 h3 h4 h5 h6
  · intro c c' l p hc hp hmp; rw [hoth c (hne hc)] at hp; exact g.own _ _ _ _ hc hp hmp
  · intro c p e hp
    by_cases e' : c = id
    · subst e'; rw [hsame] at hp; cases hp; exact hm.elim
    · rw [hoth c e'] at hp; exact g.glob _ _ _ hp
  · intro b q hb
    rw [hoth b (fun e => by subst e; rw [hid] at hb; cases hb)]; exact hb
  · intro b c e hb
    by_cases e' : b = id
    · subst e'; rw [hsame] at hb; cases hb; exact hm.elim
    · rw [hoth b e'] at hb; exact hb

/-- The model makes it. -/
theorem G.adopt {h : Tr AObj} (g : G P B W σ h w) {id : Nat} {o : AObj} {ob : Obj} (hid : h.get id = some o) (hs : σ id = none) (hm : o.mine) (ho : ORel P (σ.put id (w.heap.size, none)) none o ob) :
    G P B W (σ.put id (w.heap.size, none)) h (w.alloc ob) := by
  have hle := Rho.le_put (x := (w.heap.size, none)) hs
  refine ⟨?_, ?_, ?_, ?_, ?_, ?_, g.below.alloc g.base _⟩
  · intro c c' l p hc hp hl
    by_cases e : c = id
    · subst e
      rw [Rho.put_same] at hc; cases hc
      rw [hid] at hp; cases hp
      exact ⟨ob, heap_alloc_new w ob, ho⟩
    · rw [Rho.put_other _ _ e] at hc
      obtain ⟨p', h1, h2⟩ := g.obj _ _ _ _ hc hp hl
      exact ⟨p', by rw [heap_alloc_old w ob c' (g.lt hc hp hl)]; exact h1, h2.mono hle⟩
  · intro c x hc
    by_cases e : c = id
    · subst e; exact ⟨_, hid⟩
    · rw [Rho.put_other _ _ e] at hc; exact g.dom c x hc
  · intro c d c' l l' p q h1 h2 h3 h4 h5 h6
    by_cases e : c = id <;> by_cases e' : d = id
    · rw [e, e']
    · exfalso
      subst e
      rw [Rho.put_same] at h1; cases h1
      rw [Rho.put_other _ _ e'] at h2
      exact absurd (g.lt h2 h5 h6) (Nat.lt_irrefl _)
    · exfalso
      subst e'
      rw [Rho.put_same] at h2; cases h2
      rw [Rho.put_other _ _ e] at h1
      exact absurd (g.lt h1 h3 h4) (Nat.lt_irrefl _)
    · rw [Rho.put_other _ _ e] at h1
      rw [Rho.put_other _ _ e'] at h2
      exact g.inj _ _ _ _ _ _ _ h1 h2 h3 h4 h5 h6
  · intro c c' l p hc hp hmp
    by_cases e : c = id
    · subst e; rw [Rho.put_same] at hc; cases hc; exact g.base
    · rw [Rho.put_other _ _ e] at hc; exact g.own _ _ _ _ hc hp hmp
  · intro c p e' hp; exact hle _ _ (g.glob _ _ _ hp)
  · have := g.base; simp only [World.size_alloc]; omega
end Go.Proofs.YtjiekjfbllinbaaDoor.Rx
