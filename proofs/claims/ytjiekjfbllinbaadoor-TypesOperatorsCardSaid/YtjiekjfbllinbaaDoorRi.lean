/- Operations that touch memory: stores, maps, append. -/
import Derived.Test.YtjiekjfbllinbaaDoorRh
namespace Go.Proofs.YtjiekjfbllinbaaDoor.Rx
open Go
set_option linter.unusedSectionVars false
set_option linter.unusedVariables false
set_option linter.unusedSimpArgs false
variable [Opq] [Hints]
variable {P : Program} [HintsOk P]

/-- The model carries out the operation: its memory is what the reader's says then. -/
def LoudOut (P : Program) (B : Nat) (W : World) (ρ : Operand → Value) (o : Oper) (σ : Rho) (h : Tr AObj) (w : World) (v : Value) (k : Tr AObj) : Prop :=
  ∃ nx v' w' τ, (execOp ρ o).run P w = .ok nx w' ∧ (nx = .value v' ∨ (nx = .skip ∧ v' = undef)) ∧ VR τ v v' ∧ G P B W τ k w' ∧ StepR σ h τ k

section
variable {E : Ev} {σ : Rho} {ρ : Operand → Value} {w W : World} {B : Nat} {h : H}

theorem undef_self : VR σ undef undef := .tuple' (AR.of .nil)

theorem cells_put {k : Option Nat} {c c2 : List Value} {e : TypeId} {gr : Bool} {off : Nat} {vs vs' : List Value} {c' : Array Value} (hl : LR σ vs vs') (hp : listPut c off vs = some c2) (hc : LR σ c (c'.toList.take c.length))
    (h1 : k = none → gr = false ∧ c'.size = c.length) (h2 : ∀ K, k = some K → gr = true ∧ ∃ i, P.info? e = some i ∧ c'.size = K * i.size) :
    ORel P σ k (.cells c2 e gr) (.cells (arrPut c' off vs') e (0, 0)) ∧ off + vs'.length ≤ c'.size + (if vs'.length = 0 then off else 0) ∧ ∀ v ∈ vs', v.oneCell' = true := by
  obtain ⟨h3, h4, h5, h6⟩ := listPut_sound hl hp hc
  have hlen : c.length ≤ c'.size := by
    have := hc.length
    simp only [List.length_take, Array.length_toList] at this
    omega
  refine ⟨⟨_, rfl, h5, fun hk => ⟨(h1 hk).1, by rw [arrPut_size, h3]; exact (h1 hk).2⟩, fun K hK => ⟨(h2 K hK).1, by rw [arrPut_size]; exact (h2 K hK).2⟩⟩, ?_, h6⟩
  rw [← hl.length]; omega

theorem run_put {b off : Nat} {e : TypeId} {c : Array Value} {vs : List Value} (hw : w.heap[b]? = some (.cells c e (0, 0))) (hs : off + vs.length ≤ c.size + (if vs.length = 0 then off else 0)) (ho : ∀ v ∈ vs, v.oneCell' = true) :
    (storeCells ⟨b, off, none⟩ vs).run P w = .ok () (wset w b (.cells (arrPut c off vs) e (0, 0))) := by
  cases vs with
  | nil => simp [storeCells, arrPut, wset_same hw]
  | cons v vs =>
    have := run_storeCells (P := P) b off e (v :: vs) 0 c w hw (by simpa using hs) ho
    simpa using this

theorem store_sound (g : G P B W σ h.heap w) {o : Oper} {t : TypeId} {a x : Operand} {u v : Value} {h' : H} (ho : o.op = .store t a x) (hu : VR σ u (ρ a)) (hv : VR σ v (ρ x)) (hs : storeAt P t u v h = some h') :
    LoudOut P B W ρ o σ h.heap w undef h'.heap := by
  unfold storeAt at hs
  split at hs
  · rename_i b off
    split at hs
    · rename_i c e gr n hb hn
      split at hs
      · rename_i hh
        split at hs
        · rename_i c2 hp
          cases hs
          obtain ⟨b', k, hr, hsb⟩ := ptr_inv hu
          obtain ⟨c', hw, hl, h1, h2⟩ := g.cells hsb hb
          obtain ⟨h3, h4, h5⟩ := cells_put (P := P) (e := e) hv.cells hp hl h1 h2
          obtain ⟨g2, st⟩ := g.write hsb hb trivial (o2 := .cells c2 e gr) trivial hh.2 h3
          refine ⟨.skip, undef, _, σ, ?_, .inr ⟨rfl, rfl⟩, undef_self, g2, st⟩
          have hsz : (ρ x).cells.size = n := by rw [hv.cells_size]; exact hh.1
          have hput := run_put (P := P) hw h4 h5
          simp [execOp, ho, hr, Instr.storeAt, Instr.sureAddr, storeVar, run_sizeOf hn, Result.andThen, hsz, hput]
        · cases hs
      · cases hs
    · cases hs
  · cases hs

theorem mapPut_sound (g : G P B W σ h.heap w) {o : Oper} {t : TypeId} {m k x : Operand} {u j v : Value} {h' : H} (ho : o.op = .mapUpdate t m k x ∨ o.op = .insert t m k x) (hu : VR σ u (ρ m)) (hj : VR σ j (ρ k)) (hv : VR σ v (ρ x))
    (hs : mapPut P t u j v h = some h') : LoudOut P B W ρ o σ h.heap w undef h'.heap := by
  have hex : execOp ρ o = (do Instr.mapUpdate t (ρ m) (ρ k) (ρ x); pure .skip : Sem Next) := by rcases ho with ho | ho <;> simp [execOp, ho]
  unfold mapPut at hs
  split at hs
  · rename_i kt et r hut
    split at hs
    · rename_i es hb
      split at hs
      · rename_i hkey
        simp only [Bool.and_eq_true, decide_eq_true_eq] at hkey
        obtain ⟨r', kk, hr, hsr⟩ := map_inv hu
        obtain ⟨o', h1, es', cl, h2, h3⟩ := g.obj _ _ _ _ hsr hb trivial
        subst h2
        obtain ⟨hkf, hck⟩ := keyOk_run hkey.1 w
        have hix := flat_eq 4 hj hkf
        have hu' : (underlying t).run P w = .ok (.map kt et) w := run_underlying hut w
        have hget := MapKept.run_getObj_map (P := P) h1
        have hset : ∀ ob, (setObj r' ob).run P w = .ok () (wset w r' ob) := fun ob => MapKept.run_setObj_map ob h1
        split at hs
        · rename_i i hf
          rcases findAt_sound (P := P) h3 hf w with ⟨h4, _⟩ | ⟨i', e, h4, h5, h6⟩
          · cases h4
          · cases h4
            split at hs
            · rename_i e0 he0
              split at hs
              · rename_i hsame
                cases hs
                obtain ⟨e', h7, h8, h9⟩ := h3.some he0
                rw [h5] at h7
                cases h7
                have h10 : ER σ (es.set i (j, v)) (es'.modify i fun e => { e with key := j, val := ρ x }).toList := by
                  have : ∀ {l : List (Value × Value)} {l' : List MapEntry} (_ : ER σ l l') (i : Nat), ER σ (l.set i (j, v)) (l'.modify i fun e => { e with key := j, val := ρ x }) := by
                    intro l l' hl
                    induction hl with
                    | nil => intro i; cases i <;> simpa using .nil
                    | cons hk hw t ih => intro i; cases i with
                      | zero => simpa using .cons rfl hv t
                      | succ i => simpa using .cons hk hw (ih i)
                  simpa using this h3 i
                obtain ⟨g2, st⟩ := g.write hsr hb trivial (o2 := .map (es.set i (j, v))) trivial hkey.2 (ob := .map (es'.modify i fun e => { e with key := j, val := ρ x }) cl) ⟨_, _, rfl, h10⟩
                refine ⟨.skip, undef, _, σ, ?_, .inr ⟨rfl, rfl⟩, undef_self, g2, st⟩
                have hks : (((es'[i]?).map (·.key)).getD j) = e0.1 := by
                  have h5' : es'[i]? = some e := by simpa using h5
                  rw [h5']; exact h8
                have hstay : (Instr.keyThatStays (((es'[i]?).map (·.key)).getD j) j).run P w = .ok j w := by
                  rw [hks]; unfold Instr.keyThatStays; rw [if_pos hsame]; rfl
                rw [hex]
                simp only [Instr.mapUpdate, hr, hix, Sem.run_bind, hu', hget, hck, h6, hstay, hset, Result.andThen, Sem.run_pure]
              · cases hs
            · cases hs
        · rename_i hf
          rcases findAt_sound (P := P) h3 hf w with ⟨_, h6⟩ | ⟨i', e, h4, _⟩
          · cases hs
            have h10 : ER σ (es ++ [(j, v)]) (es'.push { key := j, val := ρ x, born := cl }).toList := by
              have : ∀ {l : List (Value × Value)} {l' : List MapEntry} (_ : ER σ l l'), ER σ (l ++ [(j, v)]) (l' ++ [{ key := j, val := ρ x, born := cl }]) := by
                intro l l' hl
                induction hl with
                | nil => exact .cons rfl hv .nil
                | cons hk hw t ih => exact .cons hk hw ih
              simpa using this h3
            obtain ⟨g2, st⟩ := g.write hsr hb trivial (o2 := .map (es ++ [(j, v)])) trivial hkey.2 (ob := .map (es'.push { key := j, val := ρ x, born := cl }) (cl + 1)) ⟨_, _, rfl, h10⟩
            refine ⟨.skip, undef, _, σ, ?_, .inr ⟨rfl, rfl⟩, undef_self, g2, st⟩
            rw [hex]
            simp only [Instr.mapUpdate, hr, hix, Sem.run_bind, hu', hget, hck, h6, hset, Result.andThen, Sem.run_pure]
          · cases h4
        · cases hs
      · cases hs
    · cases hs
  · cases hs

theorem mapDel_sound (g : G P B W σ h.heap w) {o : Oper} {t : TypeId} {m k : Operand} {ts : Array TypeId} {u j : Value} {h' : H} (ho : o.op = .call { callee := .builtin .delete, args := #[m, k], argTypes := ts }) (ht : ts[0]? = some t) (hu : VR σ u (ρ m)) (hj : VR σ j (ρ k))
    (hs : mapDel P t u j h = some h') : LoudOut P B W ρ o σ h.heap w (.tuple #[]) h'.heap := by
  have hex : execOp ρ o = (do pure (.value (← Builtin.delete_ ts o.type #[ρ m, ρ k])) : Sem Next) := by simp [execOp, ho, resolve, invoke, builtin]
  unfold mapDel at hs
  split at hs
  · rename_i kt et r hut
    split at hs
    · rename_i es hb
      split at hs
      · rename_i hkey
        simp only [Bool.and_eq_true, decide_eq_true_eq] at hkey
        obtain ⟨r', kk, hr, hsr⟩ := map_inv hu
        obtain ⟨o', h1, es', cl, h2, h3⟩ := g.obj _ _ _ _ hsr hb trivial
        subst h2
        obtain ⟨hkf, hck⟩ := keyOk_run hkey.1 w
        have hix := flat_eq 4 hj hkf
        have hemp : es'.isEmpty = es.isEmpty := by
          have := h3.length
          cases es <;> cases hq : es' with | mk l => cases l <;> simp_all
        rw [← hemp] at hck
        have hu' : (underlying t).run P w = .ok (.map kt et) w := run_underlying hut w
        have hget := MapKept.run_getObj_map (P := P) h1
        have hset : ∀ ob, (setObj r' ob).run P w = .ok () (wset w r' ob) := fun ob => MapKept.run_setObj_map ob h1
        split at hs
        · rename_i i hf
          rcases findAt_sound (P := P) h3 hf w with ⟨h4, _⟩ | ⟨i', e, h4, h5, h6⟩
          · cases h4
          · cases h4
            cases hs
            have h10 : ER σ (es.eraseIdx i) (es'.eraseIdxIfInBounds i).toList := by
              have : ∀ {l : List (Value × Value)} {l' : List MapEntry} (_ : ER σ l l') (i : Nat), ER σ (l.eraseIdx i) (l'.eraseIdx i) := by
                intro l l' hl
                induction hl with
                | nil => intro i; simpa using .nil
                | cons hk hw t ih => intro i; cases i with
                  | zero => simpa using t
                  | succ i => simpa using .cons hk hw (ih i)
              simpa using this h3 i
            obtain ⟨g2, st⟩ := g.write hsr hb trivial (o2 := .map (es.eraseIdx i)) trivial hkey.2 (ob := .map (es'.eraseIdxIfInBounds i) cl) ⟨_, _, rfl, h10⟩
            refine ⟨.value (.tuple #[]), .tuple #[], _, σ, ?_, .inl rfl, undef_self, g2, st⟩
            rw [hex]
            simp [Builtin.delete_, ht, hr, hix, hu', hget, hck, h6, hset, Result.andThen]
        · rename_i hf
          rcases findAt_sound (P := P) h3 hf w with ⟨_, h6⟩ | ⟨i', e, h4, _⟩
          · cases hs
            refine ⟨.value (.tuple #[]), .tuple #[], w, σ, ?_, .inl rfl, undef_self, g, StepR.refl _ _⟩
            rw [hex]
            simp [Builtin.delete_, ht, hr, hix, hu', hget, hck, h6, hset, wset_same h1, Result.andThen]
          · cases h4
        · cases hs
      · cases hs
    · cases hs
  · cases hs

/-! ### append -/

theorem growBy_le {need M : Nat} (hM : need + (need + 768) / 4 ≤ M) : ∀ (r c : Nat), c ≤ M → Builtin.growBy need r c ≤ M
  | 0, c, h => h
  | r + 1, c, h => by
    unfold Builtin.growBy
    split
    · exact h
    · rename_i hc
      exact growBy_le hM r _ (by omega)
theorem nextslicecap_le {need old : Nat} (h : old ≤ need) : Builtin.nextslicecap need old ≤ 2 * need + 1000 := by
  unfold Builtin.nextslicecap
  split
  · omega
  · split
    · omega
    · exact growBy_le (by omega) 4 old (by omega)

structure AppT (P : Program) (ts : Array TypeId) (elem : TypeId) (info : TypeInfo) : Prop where
  st : ∃ st, ts[0]? = some st ∧ P.underlying st = some (.slice elem)
  xt : ∃ xt d, ts[1]? = some xt ∧ P.underlying xt = some d ∧ isIntD d = false
  info : P.info? elem = some info

/-- What is appended. -/
structure Src (P : Program) (size : Nat) (x : Value) (w : World) (n : Nat) (new : List Value) : Prop where
  len : (Builtin.lenOf x).run P w = .ok n w
  cells : ∀ w' : World, w'.heap = w.heap → (Builtin.firstCells size n x).run P w' = .ok new.toArray w'
  size : new.length = n * size

theorem src_sound (g : G P B W σ h.heap w) {size n : Nat} {x x' : Value} {new : List Value} (hx : VR σ x x') (hs : srcCells x size h.heap = some (n, new)) : ∃ new', Src P size x' w n new' ∧ LR σ new new' := by
  unfold srcCells at hs
  split at hs
  · split at hs
    · rename_i hn
      cases hs
      subst hn
      have := flat0_eq hx rfl
      subst this
      exact ⟨[], ⟨by simp [Builtin.lenOf], fun w' _ => by simp [Builtin.firstCells], by simp⟩, .nil⟩
    · cases hs
  · rename_i b off m cp
    obtain ⟨b', c', k, rfl, hsb, _, _⟩ := slice_inv hx
    have key : ∀ c : List Value, ((∃ e gr, h.heap.get b = some (.cells c e gr)) ∨ ∃ e, h.heap.get b = some (.glob c e)) → off + m * size ≤ c.length → ∃ new', Src P size (.slice (some ⟨b', off, none⟩) m c') w m new' ∧ LR σ ((c.drop off).take (m * size)) new' := by
      intro c hb hle
      obtain ⟨cc, e, fr, hw, hl⟩ := g.row hsb hb
      obtain ⟨l, h1, h2⟩ := run_loadRow2 (P := P) (b' := b') (e := e) (fr := fr) hl off (m * size) hle
      refine ⟨l, ⟨by simp [Builtin.lenOf], fun w' hw' => ?_, ?_⟩, h2⟩
      · simp [Builtin.firstCells, h1 w' (by rw [hw']; exact hw)]
      · have := h2.length
        rw [← this, List.length_take, List.length_drop]
        omega
    split at hs
    · rename_i c e gr hb
      split at hs
      · rename_i hle; cases hs; exact key c (.inl ⟨_, _, hb⟩) hle
      · cases hs
    · rename_i c e hb
      split at hs
      · rename_i hle; cases hs; exact key c (.inr ⟨_, hb⟩) hle
      · cases hs
    · cases hs
  · rename_i s
    split at hs
    · rename_i hsz
      cases hs
      have := string_inv hx
      subst this
      have hall : ((s.data.map fun b => Value.int .u8 b.toNat).toList).all flat0 = true := by
        rw [List.all_eq_true]
        intro v hv
        simp only [Array.toList_map, List.mem_map] at hv
        obtain ⟨b, _, rfl⟩ := hv
        rfl
      have hex : s.extract 0 s.size = s := ByteArray.extract_zero_size
      refine ⟨_, ⟨by simp [Builtin.lenOf], fun w' _ => ?_, ?_⟩, LR.of_all (p := flat0) (fun v hv => .flat0 v hv) hall⟩
      · simp only [Builtin.firstCells, hex, Sem.run_pure, Array.toArray_toList]
      · rw [Array.length_toList, Array.size_map, hsz, Nat.mul_one]; rfl
    · cases hs
  · cases hs

/-- The new row of an append. -/
theorem run_append_new {ts : Array TypeId} {ty elem : TypeId} {info : TypeInfo} (hT : AppT P ts elem info) {z : Value} (hz : zeroOf P elem = some z) (hzs : z.cells.size = info.size) {base : Option Addr} {sLen sCap n : Nat} {x : Value} {old new : List Value}
    (hx : Src P info.size x w n new) (hold : ∀ w' : World, w'.heap = w.heap → (Builtin.firstCells info.size sLen (.slice base sLen sCap)).run P w' = .ok old.toArray w') (hol : old.length = sLen * info.size)
    (hneed : ¬ sLen + n ≤ sCap) (hle : sCap ≤ sLen + n) (hb : info.bytes ≠ 0) (hroom : (2 * (sLen + n) + 1000) * info.bytes ≤ 2 ^ 48) :
    ∃ cap rest, sLen + n ≤ cap ∧ (Builtin.append_ ts ty #[.slice base sLen sCap, x]).run P w = .ok (.slice (some ⟨w.heap.size, 0, none⟩) (sLen + n) cap) (w.drew.alloc (.cells (old.toArray ++ (new.toArray ++ rest)) elem)) ∧ (old.toArray ++ (new.toArray ++ rest)).size = cap * info.size := by
  obtain ⟨⟨st, h1, h2⟩, ⟨xt, d, h3, h4, h5⟩, h6⟩ := hT
  have e1 := run_underlying (P := P) h2 w
  have e2 := run_underlying (P := P) h4 w
  have hs : ∀ w, (sizeOf elem).run P w = .ok info.size w := fun w => by simp [sizeOf, typeInfo, h6, Result.andThen]
  have hi : ∀ w, (typeInfo elem).run P w = .ok info w := fun w => run_typeInfo h6 w
  have hcap : ¬ Builtin.nextslicecap (sLen + n) sCap * info.bytes > 2 ^ 48 := by
    have := Nat.mul_le_mul_right info.bytes (nextslicecap_le hle)
    omega
  refine ⟨(Question.appendCap (sLen + n) sCap elem).cut (w.tape w.drawn (.appendCap (sLen + n) sCap elem)), (Builtin.zeroCells z.cells ((Question.appendCap (sLen + n) sCap elem).cut (w.tape w.drawn (.appendCap (sLen + n) sCap elem)) - (sLen + n))), Nat.le_add_right _ _, ?_, ?_⟩
  · have hze := run_zeroValue hz w.drew
    unfold Builtin.append_
    cases d <;> (try (exfalso; simp [isIntD] at h5; done)) <;> simp [h1, h3, e1, e2, hs, hi, hx.len, hneed, hb, hcap, hx.cells w.drew rfl, hold w.drew rfl, hze, newRow, Question.forced, Result.andThen] <;> rfl
  · simp only [Array.size_append, List.size_toArray, hol, hx.size, Builtin.zeroCells, Array.size_map, Array.size_range, hzs]
    have : sLen + n ≤ (Question.appendCap (sLen + n) sCap elem).cut (w.tape w.drawn (.appendCap (sLen + n) sCap elem)) := Nat.le_add_right _ _
    rw [← Nat.add_mul, ← Nat.add_mul]
    congr 1
    omega

/-- An append in place. -/
theorem run_append_in {ts : Array TypeId} {ty elem : TypeId} {info : TypeInfo} (hT : AppT P ts elem info) {b off sLen sCap n : Nat} {x : Value} {new : List Value} (hx : Src P info.size x w n new) (hneed : sLen + n ≤ sCap)
    {w' : World} (hst : (storeCells ⟨b, off + sLen * info.size, none⟩ new).run P w = .ok () w') :
    (Builtin.append_ ts ty #[.slice (some ⟨b, off, none⟩) sLen sCap, x]).run P w = .ok (.slice (some ⟨b, off, none⟩) (sLen + n) sCap) w' := by
  obtain ⟨⟨st, h1, h2⟩, ⟨xt, d, h3, h4, h5⟩, h6⟩ := hT
  have e1 := run_underlying (P := P) h2 w
  have e2 := run_underlying (P := P) h4 w
  have hs : ∀ w, (sizeOf elem).run P w = .ok info.size w := fun w => by simp [sizeOf, typeInfo, h6, Result.andThen]
  have hst' : (storeCells ((⟨b, off, none⟩ : Addr).add (sLen * info.size)) new).run P w = .ok () w' := by rw [cell_add]; exact hst
  unfold Builtin.append_
  cases d <;> (try (exfalso; simp [isIntD] at h5; done)) <;> simp [h1, h3, e1, e2, hs, hx.len, hneed, hx.cells w rfl, hst', Result.andThen]
end
end Go.Proofs.YtjiekjfbllinbaaDoor.Rx
