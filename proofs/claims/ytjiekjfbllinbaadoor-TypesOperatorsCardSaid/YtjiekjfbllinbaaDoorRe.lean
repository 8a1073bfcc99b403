/- What a quiet operation of the reader's answers is what the model's answers. -/
import Derived.Test.YtjiekjfbllinbaaDoorRc
namespace Go.Proofs.YtjiekjfbllinbaaDoor.Rx
open Go
set_option linter.unusedSectionVars false
set_option linter.unusedVariables false
set_option linter.unusedSimpArgs false
variable [Opq]
variable {P : Program}

/-- The model carries out the operation: it answers such a value, or makes such a block. -/
def EffOut (P : Program) (ρ : Operand → Value) (o : Oper) (σ : Rho) (w : World) (id : Nat) : Eff → Prop
  | .val v => ∃ v', (execOp ρ o).run P w = .ok (.value v') w ∧ VR σ v v'
  | .new v ob => ∃ v' ob', (execOp ρ o).run P w = .ok (.value v') (w.alloc ob') ∧
      (∀ τ, σ.le τ → τ id = some (w.heap.size, none) → VR τ v v' ∧ ORel P τ none ob ob') ∧ ob.mine

/-- What the reader's operands are. -/
def Ops (E : Ev) (σ : Rho) (ρ : Operand → Value) (l : Array Operand) : Prop := ∀ x ∈ l, ∀ v, E x = some v → VR σ v (ρ x)

section
variable {E : Ev} {σ : Rho} {ρ : Operand → Value} {w : World} {id : Nat}

theorem flatOps_get : ∀ {l : List Operand}, flatOps E l = true → ∀ x ∈ l, ∃ v, E x = some v ∧ flat 4 v = true
  | [], _, x, h => by simp at h
  | y :: l, hf, x, h => by
    unfold flatOps at hf
    cases hy : E y with
    | none => simp [hy] at hf
    | some v =>
      simp only [hy, Bool.and_eq_true] at hf
      rcases List.mem_cons.1 h with e | e
      · subst e; exact ⟨v, hy, hf.1⟩
      · exact flatOps_get hf.2 x e

theorem flatRule_sound {o : Oper} {e : Eff} (h : flatRule P o E = some e) (hE : Ops E σ ρ o.op.operands) : EffOut P ρ o σ w id e := by
  unfold flatRule at h
  have hs : ∀ cs b, o.op ≠ .select cs b := fun cs b he => by rw [he] at h; cases h
  split at h
  · cases h
  split at h
  · cases h
  · rename_i hfl
    split at h
    · rename_i v hv
      split at h
      · rename_i hf
        cases h
        have hc : execOp ρ o = execOp (fun x => (E x).getD undef) o := execOp_congr o hs fun x hx => by
          obtain ⟨u, h1, h2⟩ := flatOps_get hfl x (by simpa using hx)
          rw [h1]; exact flat_eq 4 (hE x hx u h1) h2
        exact ⟨v, by rw [hc]; exact run_aspure P hv w, flat_self 4 hf⟩
      · cases h
    · cases h

theorem evAll_sound {l : List Operand} : ∀ {vs : List Value}, evAll E l = some vs → (∀ x ∈ l, ∀ v, E x = some v → VR σ v (ρ x)) → LR σ vs (l.map ρ) := by
  induction l with
  | nil => intro vs h _; simp [evAll] at h; subst h; exact .nil
  | cons x l ih =>
    intro vs h hE
    unfold evAll at h
    cases hx : E x with
    | none => simp [hx] at h
    | some v =>
      simp only [hx] at h
      cases hl : evAll E l with
      | none => simp [hl] at h
      | some us =>
        simp only [hl, Option.some.injEq] at h
        subst h
        exact .cons (hE x (by simp) v hx) (ih hl fun y hy => hE y (by simp [hy]))

/-- Parts of a composite literal. -/
inductive PR (σ : Rho) : List (Nat × Value) → List (Nat × Value) → Prop
  | nil : PR σ [] []
  | cons {i : Nat} {v v' : Value} {l l' : List (Nat × Value)} (h : VR σ v v') (t : PR σ l l') : PR σ ((i, v) :: l) ((i, v') :: l')

theorem evParts_sound {l : List (Nat × Operand)} : ∀ {vs : List (Nat × Value)}, evParts E l = some vs → (∀ x ∈ l.map (·.2), ∀ v, E x = some v → VR σ v (ρ x)) →
    PR σ vs (l.map fun p => (p.1, ρ p.2)) := by
  induction l with
  | nil => intro vs h _; simp [evParts] at h; subst h; exact .nil
  | cons x l ih =>
    intro vs h hE
    obtain ⟨i, x⟩ := x
    unfold evParts at h
    cases hx : E x with
    | none => simp [hx] at h
    | some v =>
      simp only [hx] at h
      cases hl : evParts E l with
      | none => simp [hl] at h
      | some us =>
        simp only [hl, Option.some.injEq] at h
        subst h
        exact .cons (hE x (by simp) v hx) (ih hl fun y hy => hE y (by simp [hy]))

theorem AR.setIfInBounds {a a' : Array Value} (h : AR σ a a') {v v' : Value} (hv : VR σ v v') (i : Nat) : AR σ (a.setIfInBounds i v) (a'.setIfInBounds i v') :=
  AR.of (by simpa using h.toLR.set hv i)

theorem fold_put : ∀ (cs : List Value) (off k : Nat) (a : Array Value), (cs.zipIdx k).foldl (fun a (p : Value × Nat) => a.setIfInBounds (off + p.2) p.1) a = arrPut a (off + k) cs
  | [], _, _, _ => rfl
  | c :: cs, off, k, a => by
    simp only [List.zipIdx_cons, List.foldl_cons]
    rw [fold_put cs off (k + 1)]
    rfl

theorem fill_sound (place : Nat → Option (Nat × Nat)) {ps ps' : List (Nat × Value)} (h : PR σ ps ps') : ∀ {c r : List Value} {a' : Array Value} {n : Nat}, LR σ c a'.toList → c.length = n → fillL place n c ps = some r →
    ∃ r', Instr.fill place a' ps' = some r' ∧ LR σ r r'.toList := by
  induction h with
  | nil => intro c r a' n ha hn hf; simp only [fillL, Option.some.injEq] at hf; subst hf; exact ⟨a', rfl, ha⟩
  | @cons i v v' l l' hv _ ih =>
    intro c r a' n ha hn hf
    unfold fillL at hf
    unfold Instr.fill
    cases hp : place i with
    | none => simp [hp] at hf
    | some os =>
      obtain ⟨off, size⟩ := os
      simp only [hp] at hf ⊢
      split at hf
      · rename_i hc
        simp only [Bool.and_eq_true] at hc
        have h1 : v.cells.size = size := Nat.eq_of_beq_eq_true hc.1
        have h2 : off + size ≤ n := Nat.le_of_ble_eq_true hc.2
        have e1 := hv.cells_size
        have e2 := ha.length
        rw [if_neg (by simp only [Bool.or_eq_true, decide_eq_true_eq, bne_iff_ne, ne_eq, not_or, Decidable.not_not]; refine ⟨by omega, ?_⟩; simp only [Array.length_toList] at e2; omega)]
        have e3 : v'.cells.zipIdx.foldl (fun cs (x : Value × Nat) => cs.setIfInBounds (off + x.2) x.1) a' = arrPut a' off v'.cells.toList := by
          rw [← Array.foldl_toList, Array.toList_zipIdx]
          exact fold_put v'.cells.toList off 0 a'
        have e4 : (arrPut a' off v'.cells.toList).toList = splice a'.toList off v'.cells.toList := arrPut_splice _ _ _ (by simp only [Array.length_toList] at e2 ⊢; omega)
        refine ih (n := n) ?_ ?_ hf
        · show LR σ _ (Array.foldl _ a' _).toList
          rw [e3, e4]
          exact LR.splice hv.cells off ha
        · rw [splice_length _ _ _ (by simp only [Array.length_toList]; omega)]; exact hn
      · cases hf

theorem map_range_AR (n : Nat) {z : Array Value} (hz : AR σ z z) : AR σ ((Array.range n).map (z[· % z.size]!)) ((Array.range n).map (z[· % z.size]!)) := by
  refine ⟨rfl, fun i v v' h1 h2 => ?_⟩
  rw [h1] at h2
  cases h2
  simp only [Array.getElem?_map] at h1
  cases hr : (Array.range n)[i]? with
  | none => simp [hr] at h1
  | some j =>
    simp only [hr, Option.map_some, Option.some.injEq] at h1
    subst h1
    by_cases hlt : j % z.size < z.size
    · have := Array.getElem?_eq_getElem hlt
      rw [getElem!_pos z (j % z.size) hlt]
      exact hz.get _ _ _ this this
    · rw [getElem!_neg z (j % z.size) hlt]
      exact .flat0 _ rfl

/-! ### Operation by operation -/

theorem val_out {o : Oper} {v v' : Value} (h : (execOp ρ o).run P w = .ok (.value v') w) (hv : VR σ v v') : EffOut P ρ o σ w id (.val v) := ⟨v', h, hv⟩

theorem zero_flat {t : TypeId} {z : Value} (h : zeroOf P t = some z) : VR σ z z := let ⟨_, _, _, hf⟩ := zeroOf_eq h; flat_self 3 hf

/-- A new row that is as long as the reader has it. -/
theorem row_new {τ : Rho} {c : List Value} {c' : Array Value} {e : TypeId} (h : LR τ c c'.toList) : ORel P τ none (.cells c e false) (.cells c' e (0, 0)) := by
  have hl := h.length
  refine ⟨c', rfl, ?_, fun _ => ⟨rfl, by simpa using hl.symm⟩, fun K hK => by cases hK⟩
  rw [hl, List.take_length]; exact h

theorem alloc_sound {o : Oper} {t : TypeId} (ho : o.op = .alloc t) {z : Value} (hz : zeroOf P t = some z) :
    EffOut P ρ o σ w id (.new (ptrTo id) (.cells z.cells.toList t false)) := by
  refine ⟨.pointer (some ⟨w.heap.size, 0, none⟩), .cells z.cells t, ?_, fun τ hτ hid => ⟨.ptr hid, row_new ((zero_flat hz).cells)⟩, trivial⟩
  simp [execOp, ho, Instr.alloc, run_zeroValue hz, newVar, newRow, Result.andThen]

theorem box_sound {o : Oper} {t : TypeId} {x : Operand} (ho : o.op = .box t x) {v : Value} (hx : VR σ v (ρ x)) :
    EffOut P ρ o σ w id (.new (ptrTo id) (.cells v.cells.toList t false)) := by
  refine ⟨.pointer (some ⟨w.heap.size, 0, none⟩), .cells (ρ x).cells t, ?_, fun τ hτ hid => ⟨.ptr hid, row_new ((hx.mono hτ).cells)⟩, trivial⟩
  simp [execOp, ho, Instr.box, newVar, newRow, Result.andThen]

theorem build_struct {o : Oper} {t : TypeId} {parts : Array (Nat × Operand)} (ho : o.op = .build t parts) {z : Value} {ps : List (Nat × Value)} {fields : Array Field} {places : Array (Nat × Nat)} {cells : List Value}
    (hz : zeroOf P t = some z) (hps : PR σ ps (parts.toList.map fun p => (p.1, ρ p.2))) (hu : P.underlying t = some (.struct fields))
    (hp : aspure P (fields.mapM fun f => do pure (f.offset, ← sizeOf f.type)) = some places) (hf : fillL (places[·]?) z.cells.size z.cells.toList ps = some cells) :
    EffOut P ρ o σ w id (.val (.agg cells.toArray)) := by
  obtain ⟨r', h1, h2⟩ := fill_sound _ hps (zero_flat (σ := σ) hz).cells (by simp) hf
  refine val_out ?_ (.agg' (AR.of (by simpa using h2)))
  have := run_aspure P hp w
  simp only [bind_pure_comp] at this
  simp [execOp, ho, Instr.build, run_zeroValue hz, run_underlying hu, this, h1, Result.andThen]

theorem build_array {o : Oper} {t : TypeId} {parts : Array (Nat × Operand)} (ho : o.op = .build t parts) {z : Value} {ps : List (Nat × Value)} {n size : Nat} {elem : TypeId} {cells : List Value}
    (hz : zeroOf P t = some z) (hps : PR σ ps (parts.toList.map fun p => (p.1, ρ p.2))) (hu : P.underlying t = some (.array n elem))
    (hs : fsize P elem = some size) (hf : fillL (fun i => some (i * size, size)) z.cells.size z.cells.toList ps = some cells) :
    EffOut P ρ o σ w id (.val (.agg cells.toArray)) := by
  obtain ⟨r', h1, h2⟩ := fill_sound _ hps (zero_flat (σ := σ) hz).cells (by simp) hf
  refine val_out ?_ (.agg' (AR.of (by simpa using h2)))
  simp [execOp, ho, Instr.build, run_zeroValue hz, run_underlying hu, run_sizeOf hs, h1, Result.andThen]

theorem LR.monoR {τ : Rho} (h : σ.le τ) {a a' : Array Value} (ha : AR σ a a') : AR τ a a' := AR.of (ha.toLR.mono h)

theorem buildSlice_sound {o : Oper} {t elem : TypeId} {len size : Nat} {parts : Array (Nat × Operand)} (ho : o.op = .buildSlice t len parts) {z : Value} {ps : List (Nat × Value)} {cells : List Value}
    (hps : PR σ ps (parts.toList.map fun p => (p.1, ρ p.2))) (hu : P.underlying t = some (.slice elem)) (hs : fsize P elem = some size) (hz : zeroOf P elem = some z)
    (h1 : ¬ len * size > 2 ^ 24) (h2 : ¬ len * size = 0) (hzs : z.cells.size = size)
    (hf : fillL (fun i => some (i * size, size)) (len * size) (zeros z.cells.toList len) ps = some cells) :
    EffOut P ρ o σ w id (.new (.slice (some ⟨id, 0, none⟩) len len) (.cells cells elem false)) := by
  have hz0 : ((Array.range (len * size)).map (z.cells[· % z.cells.size]!)).toList = zeros z.cells.toList len := by rw [← hzs]; exact zeros_get _ _
  have hA := (map_range_AR (σ := σ) (len * size) (AR.of (zero_flat (σ := σ) hz).cells)).toLR
  obtain ⟨r', h3, h4⟩ := fill_sound _ hps (c := zeros z.cells.toList len) (by rw [hz0] at hA; rw [hz0]; exact hA) (by rw [← hz0]; simp) hf
  refine ⟨.slice (some ⟨w.heap.size, 0, none⟩) len len, .cells r' elem, ?_, fun τ hτ hid => ⟨.slice hid, row_new (h4.mono hτ)⟩, trivial⟩
  simp [execOp, ho, Instr.buildSlice, run_zeroValue hz, run_underlying hu, run_sizeOf hs, h1, h2, h3, newRow, Result.andThen]

theorem nilCheck_sound {o : Oper} {x : Operand} (ho : o.op = .nilCheck x) {v : Value} (hx : VR σ v (ρ x))
    (hv : (∃ a, v = .pointer (some a)) ∨ (∃ f a b, v = .func (.func f) a b) ∨ ∃ t u, v = .iface t u) : EffOut P ρ o σ w id (.val v) := by
  refine val_out (v' := ρ x) ?_ hx
  rcases hv with ⟨a, rfl⟩ | ⟨f, a, b, rfl⟩ | ⟨t, u, rfl⟩
  · generalize hr : ρ x = r at hx
    cases hx with
    | ptr e => simp [execOp, ho, hr]
    | flat0 _ h => simp [flat0] at h
  · generalize hr : ρ x = r at hx
    cases hx with
    | func => simp [execOp, ho, hr]
    | flat0 _ h => simp [flat0] at h
  · generalize hr : ρ x = r at hx
    cases hx with
    | iface => simp [execOp, ho, hr]
    | flat0 _ h => simp [flat0] at h

theorem ptr_inv {b off : Nat} {v' : Value} (h : VR σ (.pointer (some ⟨b, off, none⟩)) v') : ∃ b' k, v' = .pointer (some ⟨b', off, none⟩) ∧ σ b = some (b', k) := by
  cases h with
  | ptr e => exact ⟨_, _, rfl, e⟩
  | flat0 _ h => simp [flat0] at h
theorem int_inv {k : IntKind} {n : Int} {v' : Value} (h : VR σ (.int k n) v') : v' = .int k n := by cases h; rfl
theorem bool_inv {b : Bool} {v' : Value} (h : VR σ (.bool b) v') : v' = .bool b := by cases h; rfl
theorem string_inv {s : ByteArray} {v' : Value} (h : VR σ (.string s) v') : v' = .string s := by cases h; rfl
theorem agg_inv {a : Array Value} {v' : Value} (h : VR σ (.agg a) v') : ∃ a', v' = .agg a' ∧ AR σ a a' := by
  cases h with
  | agg h1 h2 => exact ⟨_, rfl, h1, h2⟩
  | flat0 _ h => simp [flat0] at h
theorem tuple_inv {a : Array Value} {v' : Value} (h : VR σ (.tuple a) v') : ∃ a', v' = .tuple a' ∧ AR σ a a' := by
  cases h with
  | tuple h1 h2 => exact ⟨_, rfl, h1, h2⟩
  | flat0 _ h => simp [flat0] at h
theorem iface_inv {t : TypeId} {u v' : Value} (h : VR σ (.iface t u) v') : ∃ u', v' = .iface t u' ∧ VR σ u u' := by
  cases h with
  | iface h => exact ⟨_, rfl, h⟩
  | flat0 _ h => simp [flat0] at h
theorem slice_inv {b off l c : Nat} {v' : Value} (h : VR σ (.slice (some ⟨b, off, none⟩) l c) v') :
    ∃ b' c' k, v' = .slice (some ⟨b', off, none⟩) l c' ∧ σ b = some (b', k) ∧ (k = none → c' = c) ∧ (∀ K, k = some K → c ≤ c' ∧ (off = 0 → c' = K)) := by
  cases h with
  | slice e => exact ⟨_, _, _, rfl, e, fun _ => rfl, fun K h => by cases h⟩
  | grow e hc h0 => exact ⟨_, _, _, rfl, e, (fun h => by cases h), fun K h => by cases h; exact ⟨hc, h0⟩⟩
  | flat0 _ h => simp [flat0] at h
theorem map_inv {b : Nat} {v' : Value} (h : VR σ (.map (some b)) v') : ∃ b' k, v' = .map (some b') ∧ σ b = some (b', k) := by
  cases h with
  | map e => exact ⟨_, _, rfl, e⟩
  | flat0 _ h => simp [flat0] at h

theorem fieldAddr_sound {o : Oper} {s : TypeId} {x : Operand} {i b off n : Nat} {fields : Array Field} {f : Field} (ho : o.op = .fieldAddr s x i)
    (hu : P.underlying s = some (.struct fields)) (hf : fields[i]? = some f) (hn : fsize P f.type = some (n + 1)) (hx : VR σ (.pointer (some ⟨b, off, none⟩)) (ρ x)) :
    EffOut P ρ o σ w id (.val (.pointer (some ⟨b, off + f.offset, none⟩))) := by
  obtain ⟨b', k, hr, hs⟩ := ptr_inv hx
  refine val_out (v' := .pointer (some ⟨b', off + f.offset, none⟩)) ?_ (.ptr hs)
  simp [execOp, ho, hr, Instr.fieldAt, Instr.sureAddr, run_underlying hu, hf, fieldPlace, run_sizeOf hn, Result.andThen, cell_add]

theorem field_sound {o : Oper} {t : TypeId} {x : Operand} {i : Nat} {cs : Array Value} {fields : Array Field} {f : Field} {v : Value} (ho : o.op = .field t x i)
    (hu : P.underlying t = some (.struct fields)) (hf : fields[i]? = some f) (hv : partOf P f.type cs f.offset = some v) (hx : VR σ (.agg cs) (ρ x)) :
    EffOut P ρ o σ w id (.val v) := by
  obtain ⟨a', hr, ha⟩ := agg_inv hx
  obtain ⟨v', h1, h2⟩ := run_part hv ha w
  refine val_out (v' := v') ?_ h2
  simp [execOp, ho, hr, Instr.field, run_underlying hu, hf, asAgg, h1, Result.andThen]

theorem index_array {o : Oper} {t e : TypeId} {x ix : Operand} {len n : Nat} {k : IntKind} {i : Int} {cs : Array Value} {v : Value} (ho : o.op = .index t x ix)
    (hu : P.underlying t = some (.array len e)) (hi : 0 ≤ i ∧ i < len) (hn : fsize P e = some n) (hv : partOf P e cs (i.toNat * n) = some v) (hx : VR σ (.agg cs) (ρ x)) (hix : VR σ (.int k i) (ρ ix)) :
    EffOut P ρ o σ w id (.val v) := by
  obtain ⟨a', hr, ha⟩ := agg_inv hx
  have hr2 := int_inv hix
  obtain ⟨v', h1, h2⟩ := run_part hv ha w
  refine val_out (v' := v') ?_ h2
  simp [execOp, ho, hr, hr2, Instr.index, asIntOf, run_underlying hu, hi, run_sizeOf hn, h1, Result.andThen]

theorem indexAddr_slice {o : Oper} {t e : TypeId} {x ix : Operand} {b off len cap n : Nat} {k : IntKind} {i : Int} (ho : o.op = .indexAddr t x ix)
    (hu : P.underlying t = some (.slice e)) (hi : 0 ≤ i ∧ i < len) (hn : fsize P e = some n) (hx : VR σ (.slice (some ⟨b, off, none⟩) len cap) (ρ x)) (hix : VR σ (.int k i) (ρ ix)) :
    EffOut P ρ o σ w id (.val (.pointer (some ⟨b, off + i.toNat * n, none⟩))) := by
  obtain ⟨b', c', kk, hr, hs, _, _⟩ := slice_inv hx
  have hr2 := int_inv hix
  refine val_out (v' := .pointer (some ⟨b', off + i.toNat * n, none⟩)) ?_ (.ptr hs)
  simp [execOp, ho, hr, hr2, Instr.indexAt, asIntOf, run_underlying hu, hi, run_sizeOf hn, Result.andThen, cell_add]

theorem indexAddr_array {o : Oper} {t e : TypeId} {x ix : Operand} {b off len n : Nat} {k : IntKind} {i : Int} (ho : o.op = .indexAddr t x ix)
    (hu : P.underlying t = some (.array len e)) (hi : 0 ≤ i ∧ i < len) (hn : fsize P e = some n) (hx : VR σ (.pointer (some ⟨b, off, none⟩)) (ρ x)) (hix : VR σ (.int k i) (ρ ix)) :
    EffOut P ρ o σ w id (.val (.pointer (some ⟨b, off + i.toNat * n, none⟩))) := by
  obtain ⟨b', kk, hr, hs⟩ := ptr_inv hx
  have hr2 := int_inv hix
  refine val_out (v' := .pointer (some ⟨b', off + i.toNat * n, none⟩)) ?_ (.ptr hs)
  simp [execOp, ho, hr, hr2, Instr.indexAt, Instr.sureAddr, asIntOf, run_underlying hu, hi, run_sizeOf hn, Result.andThen, cell_add]

theorem makeInterface_sound {o : Oper} {t : TypeId} {x : Operand} {v : Value} {d : TypeDesc} (ho : o.op = .makeInterface t x) (hu : P.underlying t = some d) (hd : ∀ ms, d ≠ .interface ms) (hx : VR σ v (ρ x)) :
    EffOut P ρ o σ w id (.val (.iface t v)) := by
  refine val_out (v' := .iface t (ρ x)) ?_ (.iface hx)
  have : (underlying t).run P w = .ok d w := run_underlying hu w
  cases d <;> first | exact absurd rfl (hd _) | simp [execOp, ho, Instr.makeInterface, this, Result.andThen]

theorem makeFunc_sound {o : Oper} {fn : Fn} {first captured : Array Operand} {a b : List Value} (ho : o.op = .makeFunc fn first captured) (hf : fnOk fn = true)
    (ha : LR σ a (first.toList.map ρ)) (hb : LR σ b (captured.toList.map ρ)) : EffOut P ρ o σ w id (.val (.func fn a.toArray b.toArray)) := by
  have h1 : AR σ a.toArray (first.map ρ) := AR.of (by simpa using ha)
  have h2 : AR σ b.toArray (captured.map ρ) := AR.of (by simpa using hb)
  refine val_out (v' := .func fn (first.map ρ) (captured.map ρ)) ?_ (.func hf h1.size h1.get h2.size h2.get)
  simp [execOp, ho, Instr.makeFunc, Result.andThen]

theorem makeMap_none {o : Oper} {t : TypeId} (ho : o.op = .makeMap t none) : EffOut P ρ o σ w id (.new (.map (some id)) (.map [])) := by
  refine ⟨.map (some w.heap.size), .map #[] 0, ?_, fun τ hτ hid => ⟨.map hid, _, _, rfl, .nil⟩, trivial⟩
  simp [execOp, ho, Instr.makeMap, Result.andThen]
theorem makeMap_some {o : Oper} {t kt et : TypeId} {x : Operand} {k : IntKind} {n : Int} (ho : o.op = .makeMap t (some x)) (hu : P.underlying t = some (.map kt et)) (hx : VR σ (.int k n) (ρ x)) :
    EffOut P ρ o σ w id (.new (.map (some id)) (.map [])) := by
  have hr := int_inv hx
  refine ⟨.map (some w.heap.size), .map #[] 0, ?_, fun τ hτ hid => ⟨.map hid, _, _, rfl, .nil⟩, trivial⟩
  simp [execOp, ho, hr, Instr.makeMap, run_underlying hu, asInt, asIntOf, Result.andThen]

theorem extract_sound {o : Oper} {x : Operand} {i : Nat} {vs : Array Value} {v : Value} (ho : o.op = .extract x i) (hv : vs[i]? = some v) (hx : VR σ (.tuple vs) (ρ x)) : EffOut P ρ o σ w id (.val v) := by
  obtain ⟨a', hr, ha⟩ := tuple_inv hx
  obtain ⟨v', h1, h2⟩ := ha.some hv
  refine val_out (v' := v') ?_ h2
  simp [execOp, ho, hr, Instr.extract, h1, Result.andThen]

theorem typeAssert_is {o : Oper} {x : Operand} {xt t : TypeId} {ok : Bool} {v : Value} {d : TypeDesc} (ho : o.op = .typeAssert x xt t ok) (hu : P.underlying t = some d) (hd : ∀ ms, d ≠ .interface ms)
    (hx : VR σ (.iface t v) (ρ x)) : EffOut P ρ o σ w id (.val (if ok then .tuple #[v, .bool true] else v)) := by
  obtain ⟨u', hr, hu'⟩ := iface_inv hx
  refine val_out (v' := if ok then .tuple #[u', .bool true] else u') ?_ ?_
  · have : (underlying t).run P w = .ok d w := run_underlying hu w
    cases d <;> first | exact absurd rfl (hd _) | (cases ok <;> simp [execOp, ho, hr, Instr.typeAssert, this, Result.andThen])
  · cases ok
    · exact hu'
    · exact .tuple' (AR.of (.cons hu' (.cons (.flat0 _ rfl) .nil)))
theorem typeAssert_isnt {o : Oper} {x : Operand} {xt t s : TypeId} {v z : Value} {d : TypeDesc} (ho : o.op = .typeAssert x xt t true) (hu : P.underlying t = some d) (hd : ∀ ms, d ≠ .interface ms) (hne : s ≠ t)
    (hz : zeroOf P t = some z) (hx : VR σ (.iface s v) (ρ x)) : EffOut P ρ o σ w id (.val (.tuple #[z, .bool false])) := by
  obtain ⟨u', hr, hu'⟩ := iface_inv hx
  refine val_out (v' := .tuple #[z, .bool false]) ?_ (.tuple' (AR.of (.cons (zero_flat hz) (.cons (.flat0 _ rfl) .nil))))
  have : (underlying t).run P w = .ok d w := run_underlying hu w
  cases d <;> first | exact absurd rfl (hd _) | simp [execOp, ho, hr, Instr.typeAssert, this, hne, run_zeroValue hz, Result.andThen]

theorem pick_sound {o : Oper} {c a b : Operand} {t : Bool} {v : Value} (ho : o.op = .pick c a b) (hc : VR σ (.bool t) (ρ c)) (hv : VR σ v (ρ (if t then a else b))) : EffOut P ρ o σ w id (.val v) := by
  have hr := bool_inv hc
  refine val_out (v' := ρ (if t then a else b)) ?_ hv
  cases t <;> simp [execOp, ho, hr, asBool, Result.andThen]
end
end Go.Proofs.YtjiekjfbllinbaaDoor.Rx
