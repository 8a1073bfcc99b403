/- Every quiet operation: what the reader answers is what the model answers. -/
import Derived.Test.YtjiekjfbllinbaaDoorRf
import Derived.Laws.BitsLemmas
namespace Go.Proofs.YtjiekjfbllinbaaDoor.Rx
open Go
set_option linter.unusedSectionVars false
set_option linter.unusedVariables false
set_option linter.unusedSimpArgs false
variable [Opq] [Hints]
variable {P : Program} [HintsOk P] {E : Ev} {σ : Rho} {ρ : Operand → Value} {w W : World} {id B : Nat} {h : Tr AObj}

theorem map_some_inv {α β : Type} {f : α → β} {x : Option α} {y : β} (h : x.map f = some y) : ∃ a, x = some a ∧ f a = y := by
  cases x with
  | none => cases h
  | some a => exact ⟨a, rfl, by simpa using h⟩

theorem makeSlice_sound {o : Oper} {t elem : TypeId} {l c : Operand} {kl kc : IntKind} {l' c' : Int} {info : TypeInfo} {z : Value} (ho : o.op = .makeSlice t l c) (hu : P.underlying t = some (.slice elem)) (hi : P.info? elem = some info)
    (hz : zeroOf P elem = some z) (hh : 0 ≤ l' ∧ l' ≤ c' ∧ c' < 2 ^ 40 ∧ info.bytes * c' ≤ 2 ^ 48 ∧ 0 < c'.toNat * info.size ∧ z.cells.size = info.size) (hl : VR σ (.int kl l') (ρ l)) (hc : VR σ (.int kc c') (ρ c)) :
    EffOut P ρ o σ w id (.new (.slice (some ⟨id, 0, none⟩) l'.toNat c'.toNat) (.cells (zeros z.cells.toList c'.toNat) elem false)) := by
  obtain ⟨h0, h1, h2, h3, h4, hzs⟩ := hh
  have hz0 : ((Array.range (c'.toNat * info.size)).map (z.cells[· % z.cells.size]!)).toList = zeros z.cells.toList c'.toNat := by rw [← hzs]; exact zeros_get _ _
  have el := int_inv hl
  have ec := int_inv hc
  have w1 : IntKind.i64.wrap l' = l' := by rw [IntKind.wrap_i64]; omega
  have w2 : IntKind.i64.wrap c' = c' := by rw [IntKind.wrap_i64]; omega
  have t1 : ¬ c' < 0 := by omega
  have t2 : ¬ l' < 0 := by omega
  have t3 : ¬ l' > c' := by omega
  have t4 : ¬ (281474976710656 : Int) < (info.bytes : Int) * c' := by omega
  have t5 : ¬ c'.toNat * info.size = 0 := by omega
  have hu' := run_underlying (P := P) hu w
  have hs : (sizeOf elem).run P w = .ok info.size w := by simp [sizeOf, typeInfo, hi, Result.andThen]
  refine ⟨.slice (some ⟨w.heap.size, 0, none⟩) l'.toNat c'.toNat, .cells ((Array.range (c'.toNat * info.size)).map (z.cells[· % z.cells.size]!)) elem, ?_,
    fun τ hτ hid => ⟨.slice hid, row_new (by rw [← hz0]; exact (map_range_AR (σ := τ) _ (AR.of (zero_flat (σ := τ) hz).cells)).toLR)⟩, trivial⟩
  simp [execOp, ho, el, ec, Instr.makeSlice, hu', asInt, asIntOf, run_typeInfo hi, Result.andThen, w1, w2, t1, t2, t3, t4, t5, hs, run_zeroValue hz, newRow]

theorem eag_sound (g : G P B W σ h w) {o : Oper} {e : Eff} (hE : Ops E σ ρ o.op.operands) (he : eag P o E h id = some e) : EffOut P ρ o σ w id e := by
  have hfl : ∀ {e}, flatRule P o E = some e → EffOut P ρ o σ w id e := fun hf => flatRule_sound hf hE
  cases hop : o.op <;> (try (simp only [eag, eagPick, eagAlloc, eagBox, eagBuild, eagBuildSlice, eagLoad, eagNil, eagFieldAddr, eagField, eagIndexAddr, eagIndex, eagIface, eagFunc, eagMakeMap, eagMakeSlice, eagSlice, eagLookup, eagAssert, eagExtract, eagBin, eagBin0, eagUn, eagConv, eagLen, eagCall, hop] at he; exact hfl he)) <;> simp only [hop, Op.operands] at hE <;> simp only [eag, eagPick, eagAlloc, eagBox, eagBuild, eagBuildSlice, eagLoad, eagNil, eagFieldAddr, eagField, eagIndexAddr, eagIndex, eagIface, eagFunc, eagMakeMap, eagMakeSlice, eagSlice, eagLookup, eagAssert, eagExtract, eagBin, eagBin0, eagUn, eagConv, eagLen, eagCall, hop] at he
  case move x =>
    obtain ⟨v, h1, rfl⟩ := map_some_inv he
    exact val_out (v' := ρ x) (by simp [execOp, hop]) (hE x (by simp) v h1)
  case assign x =>
    obtain ⟨v, h1, rfl⟩ := map_some_inv he
    exact val_out (v' := ρ x) (by simp [execOp, hop]) (hE x (by simp) v h1)
  case pick c a b =>
    split at he
    · rename_i hc
      obtain ⟨v, h1, rfl⟩ := map_some_inv he
      exact pick_sound (t := true) hop (hE c (by simp) _ hc) (hE a (by simp) v h1)
    · rename_i hc
      obtain ⟨v, h1, rfl⟩ := map_some_inv he
      exact pick_sound (t := false) hop (hE c (by simp) _ hc) (hE b (by simp) v h1)
    · cases he
  case alloc t =>
    split at he
    · rename_i z hz; cases he; exact alloc_sound hop hz
    · cases he
  case box t x =>
    split at he
    · rename_i v hv; cases he; exact box_sound hop (hE x (by simp) v hv)
    · cases he
  case build t parts =>
    have hp : ∀ ps, evParts E parts.toList = some ps → PR σ ps (parts.toList.map fun p => (p.1, ρ p.2)) := fun ps h => evParts_sound h fun x hx v hv => hE x (by simpa using hx) v hv
    split at he
    · rename_i z ps fields hz hps hu
      split at he
      · rename_i places hpl
        split at he
        · rename_i cells hf; cases he; exact build_struct hop hz (hp _ hps) hu hpl hf
        · cases he
      · cases he
    · rename_i z ps n elem hz hps hu
      split at he
      · rename_i size hs
        split at he
        · rename_i cells hf; cases he; exact build_array hop hz (hp _ hps) hu hs hf
        · cases he
      · cases he
    · cases he
  case buildSlice t len parts =>
    have hp : ∀ ps, evParts E parts.toList = some ps → PR σ ps (parts.toList.map fun p => (p.1, ρ p.2)) := fun ps h => evParts_sound h fun x hx v hv => hE x (by simpa using hx) v hv
    split at he
    · rename_i elem ps hu hps
      split at he
      · rename_i size z hs hz
        split at he
        · cases he
        · rename_i h1
          split at he
          · cases he
          · rename_i h2
            split at he
            · cases he
            · rename_i h3
              split at he
              · rename_i cells hf; cases he; exact buildSlice_sound hop (hp _ hps) hu hs hz h1 h2 (by simpa using h3) hf
              · cases he
      · cases he
    · cases he
  case load t a =>
    split at he
    · rename_i b off ha
      split at he
      · rename_i c e' gr hb
        obtain ⟨v, h1, rfl⟩ := map_some_inv he
        exact load_sound g hop (hE a (by simp) _ ha) (.inl ⟨_, _, hb⟩) h1
      · rename_i c e' hb
        obtain ⟨v, h1, rfl⟩ := map_some_inv he
        exact load_sound g hop (hE a (by simp) _ ha) (.inr ⟨_, hb⟩) h1
      · cases he
    · cases he
  case nilCheck x =>
    split at he
    · rename_i a ha; cases he; exact nilCheck_sound hop (hE x (by simp) _ ha) (.inl ⟨_, rfl⟩)
    · rename_i f a b ha; cases he; exact nilCheck_sound hop (hE x (by simp) _ ha) (.inr (.inl ⟨_, _, _, rfl⟩))
    · rename_i t v ha; cases he; exact nilCheck_sound hop (hE x (by simp) _ ha) (.inr (.inr ⟨_, _, rfl⟩))
    · cases he
  case binOp op t x y t2 =>
    split at he
    · rename_i u hx
      split at he
      · rename_i v hy
        split at he
        · rename_i r hr
          cases he
          exact bin_fast hop (hE x (by simp) _ hx) (hE y (by simp) _ hy) hr
        · split at he
          · rename_i r hr
            cases he
            obtain ⟨r', h1, h2⟩ := HintsOk.ok (P := P) σ op t u v r hr (ρ x) (ρ y) (hE x (by simp) _ hx) (hE y (by simp) _ hy)
            exact val_out (v' := r') (by have := h1 x y w; simp only [execOp, hop, Sem.run_bind] at this ⊢; rw [this]; rfl) h2
          cases op <;> (try (simp only at he; exact hfl he)) <;> simp only [hx, hy] at he
          case eql =>
            split at he
            · rename_i d u' v' hu hx' hy'
              cases hx'; cases hy'
              split at he
              · rename_i r hr; cases he; exact eql_sound hop hu hr (hE x (by simp) _ hx) (hE y (by simp) _ hy)
              · exact hfl he
            · cases he
          case neq =>
            split at he
            · rename_i d u' v' hu hx' hy'
              cases hx'; cases hy'
              split at he
              · rename_i r hr; cases he; exact neq_sound hop hu hr (hE x (by simp) _ hx) (hE y (by simp) _ hy)
              · exact hfl he
            · cases he
      · cases he
    · cases he
  case unOp op t x =>
    cases op <;> (try (simp only at he; exact hfl he)) <;> simp only at he
    split at he
    · rename_i b hx; cases he; exact un_fast hop (hE x (by simp) _ hx)
    · exact hfl he
  case convert src dst x =>
    split at he
    · rename_i j n hx
      split at he
      · rename_i i k hs hd
        split at he
        · rename_i hf; cases he; exact conv_fast hop (hE x (by simp) _ hx) hs hd hf
        · exact hfl he
      · exact hfl he
    · exact hfl he
  case makeInterface t x =>
    split at he
    · cases he
    · rename_i d v hni hu hv
      cases he
      exact makeInterface_sound hop hu (fun ms hms => hni ms hms) (hE x (by simp) v hv)
    · cases he
  case makeFunc fn first captured =>
    split at he
    · rename_i a b ha hb
      split at he
      · rename_i hf
        cases he
        exact makeFunc_sound hop hf (evAll_sound ha fun x hx v hv => hE x (by simp at hx ⊢; exact .inl hx) v hv) (evAll_sound hb fun x hx v hv => hE x (by simp at hx ⊢; exact .inr hx) v hv)
      · cases he
    · cases he
  case makeMap t r =>
    cases r with
    | none => simp only at he; cases he; exact makeMap_none hop
    | some x =>
      simp only at he
      split at he
      · rename_i kt et k n hu hx; cases he; exact makeMap_some hop hu (hE x (by simp) _ hx)
      · cases he
  case makeSlice t l c =>
    split at he
    · rename_i elem kl l' kc c' hu hl hc
      split at he
      · rename_i info z hi hz
        split at he
        · rename_i hh
          cases he
          exact makeSlice_sound hop hu hi hz hh (hE l (by simp) _ hl) (hE c (by simp) _ hc)
        · cases he
      · cases he
    · cases he
  case slice t x lo hi mx =>
    split at he
    · rename_i b off len cap hx
      have hx' := hE x (by simp) _ hx
      split at he
      · rename_i c e' gr lo' hi' mx' hb h1 h2 h3
        obtain ⟨v, hv, rfl⟩ := map_some_inv he
        refine slice_sound hop hx' (optFlat_eq h1 fun z hz => hE z (by simp [hz])) (optFlat_eq h2 fun z hz => hE z (by simp [hz])) (optFlat_eq h3 fun z hz => hE z (by simp [hz])) ?_ hv
        intro b' K hs
        obtain ⟨_, _, _, _, h6⟩ := g.cells hs hb
        exact (h6 K rfl).1
      · rename_i c e' lo' hi' mx' hb h1 h2 h3
        obtain ⟨v, hv, rfl⟩ := map_some_inv he
        refine slice_sound hop hx' (optFlat_eq h1 fun z hz => hE z (by simp [hz])) (optFlat_eq h2 fun z hz => hE z (by simp [hz])) (optFlat_eq h3 fun z hz => hE z (by simp [hz])) ?_ hv
        intro b' K hs
        rw [g.glob _ _ _ hb] at hs
        cases hs
      · cases he
    · exact hfl he
  case fieldAddr s x i =>
    split at he
    · rename_i fields b off hu hx
      split at he
      · rename_i f hf
        split at he
        · rename_i n hn; cases he; exact fieldAddr_sound hop hu hf hn (hE x (by simp) _ hx)
        · cases he
      · cases he
    · cases he
  case field t x i =>
    split at he
    · rename_i fields cs hu hx
      split at he
      · rename_i f hf
        obtain ⟨v, hv, rfl⟩ := map_some_inv he
        exact field_sound hop hu hf hv (hE x (by simp) _ hx)
      · cases he
    · cases he
  case indexAddr t x ix =>
    split at he
    · rename_i e' b off len cap k i hu hx hix
      split at he
      · rename_i hi
        obtain ⟨n, hn, rfl⟩ := map_some_inv he
        exact indexAddr_slice hop hu hi hn (hE x (by simp) _ hx) (hE ix (by simp) _ hix)
      · cases he
    · rename_i len e' b off k i hu hx hix
      split at he
      · rename_i hi
        obtain ⟨n, hn, rfl⟩ := map_some_inv he
        exact indexAddr_array hop hu hi hn (hE x (by simp) _ hx) (hE ix (by simp) _ hix)
      · cases he
    · cases he
  case index t x ix =>
    split at he
    · rename_i len e' cs k i hu hx hix
      split at he
      · rename_i hi
        split at he
        · rename_i n hn
          obtain ⟨v, hv, rfl⟩ := map_some_inv he
          exact index_array hop hu hi hn hv (hE x (by simp) _ hx) (hE ix (by simp) _ hix)
        · cases he
      · cases he
    · exact hfl he
  case lookup t x ix ok =>
    split at he
    · rename_i r k hx hk
      obtain ⟨v, hv, rfl⟩ := map_some_inv he
      exact lookup_sound g hop (hE x (by simp) _ hx) (hE ix (by simp) _ hk) hv
    · exact hfl he
  case typeAssert x xt t ok =>
    split at he
    · split at he <;> simp at he
    · rename_i s v d hni hx hu
      have hd : ∀ ms, d ≠ .interface ms := fun ms hms => hni ms hms
      split at he
      · rename_i hst
        cases he
        subst hst
        exact typeAssert_is hop hu hd (hE x (by simp) _ hx)
      · rename_i hst
        split at he
        · rename_i hok
          obtain ⟨z, hz, rfl⟩ := map_some_inv he
          have : ok = true := by simpa using hok
          subst this
          exact typeAssert_isnt hop hu hd hst hz (hE x (by simp) _ hx)
        · cases he
    · exact hfl he
  case extract x i =>
    split at he
    · rename_i vs hx
      obtain ⟨v, hv, rfl⟩ := map_some_inv he
      exact extract_sound hop hv (hE x (by simp) _ hx)
    · cases he
  case call c =>
    obtain ⟨callee, args, ts⟩ := c
    cases callee with
    | value f => exact hfl he
    | invoke r m => exact hfl he
    | builtin b =>
      cases b <;> first | exact hfl he | skip
      simp only at he
      split at he
      · rename_i t x ht hx
        have hxm : x ∈ Op.operands (.call { callee := .builtin .len, args := args, argTypes := ts }) := by
          simp only [Op.operands, Call.operands]
          exact Array.mem_append.2 (.inr (Array.mem_of_getElem? hx))
        split at he
        · rename_i e' b n c hu hv
          cases he
          exact len_slice hop ht hx hu (hE x hxm _ hv)
        · rename_i kt et r hu hv
          split at he
          · rename_i es hb
            cases he
            exact len_map g hop ht hx hu (hE x hxm _ hv) hb
          · cases he
        · exact hfl he
      · cases he
end Go.Proofs.YtjiekjfbllinbaaDoor.Rx
