/- append, as the reader has it. -/
import Derived.Test.YtjiekjfbllinbaaDoorRi
namespace Go.Proofs.YtjiekjfbllinbaaDoor.Rx
open Go
set_option linter.unusedSectionVars false
set_option linter.unusedVariables false
set_option linter.unusedSimpArgs false
variable [Opq] [Hints]
variable {P : Program} [HintsOk P] {σ : Rho} {ρ : Operand → Value} {w W : World} {B : Nat} {h : H}

theorem G.gone {h : Tr AObj} (g : G P B W σ h w) {b b' : Nat} {k : Option Nat} {o : AObj} (hs : σ b = some (b', k)) (hb : h.get b = some o) (h50 : b < 2 ^ 50) : G P B W σ (h.set 60 b .gone) w ∧ StepR σ h σ (h.set 60 b .gone) := by
  have hsame : (h.set 60 b .gone).get b = some .gone := Tr.get_set_same _ _ _ _ (two50 h50)
  have hoth : ∀ j, j ≠ b → (h.set 60 b .gone).get j = h.get j := fun j hj => Tr.get_set_other _ _ _ _ _ hj
  have f : ∀ x y, (h.set 60 b .gone).get x = some y → y.live → h.get x = some y := fun x y hx hy => by
    by_cases e : x = b
    · subst e; rw [hsame] at hx; cases hx; exact hy.elim
    · rw [hoth x e] at hx; exact hx
  refine ⟨⟨?_, ?_, ?_, ?_, ?_, g.base, g.below⟩, σ.le_refl, ?_⟩
  · intro c c' l p hc hp hl; exact g.obj _ _ _ _ hc (f _ _ hp hl) hl
  · intro c x hc
    by_cases e : c = b
    · subst e; exact ⟨_, hsame⟩
    · rw [hoth c e]; exact g.dom c x hc
  · intro c d c' l l' p q h1 h2 h3 h4 h5 h6; exact g.inj _ _ _ _ _ _ _ h1 h2 (f _ _ h3 h4) h4 (f _ _ h5 h6) h6
  · intro c c' l p hc hp hmp; exact g.own _ _ _ _ hc (f _ _ hp hmp.live) hmp
  · intro c p e' hp; exact g.glob _ _ _ (f _ _ hp trivial)
  · intro c p hc hp
    refine ⟨hc, ?_⟩
    rw [hoth c (fun e => by subst e; rw [hs] at hc; cases hc)]
    exact hp

theorem append_new (g : G P B W σ h.heap w) {o : Oper} {s x : Operand} {ts : Array TypeId} (hex : execOp ρ o = (do pure (.value (← Builtin.append_ ts o.type #[ρ s, ρ x])) : Sem Next))
    {elem : TypeId} {info : TypeInfo} (hT : AppT P ts elem info) {z : Value} (hz : zeroOf P elem = some z) (hzs : z.cells.size = info.size) {base : Option Addr} {sLen sCap n : Nat} {oldA newA old new : List Value}
    (hr : ρ s = .slice base sLen sCap) (hx : Src P info.size (ρ x) w n new) (hnew : LR σ newA new) (hold : ∀ w' : World, w'.heap = w.heap → (Builtin.firstCells info.size sLen (.slice base sLen sCap)).run P w' = .ok old.toArray w')
    (holdR : LR σ oldA old) (hol : old.length = sLen * info.size) (hneed : ¬ sLen + n ≤ sCap) (hle : sCap ≤ sLen + n) (hb : info.bytes ≠ 0) (hroom : (2 * (sLen + n) + 1000) * info.bytes ≤ 2 ^ 48)
    {k : H} (hk : k.heap = h.heap) {id : Nat} (hid : h.heap.get id = none) (h50 : id < 2 ^ 50) :
    LoudOut P B W ρ o σ h.heap w (.slice (some ⟨id, 0, none⟩) (sLen + n) (sLen + n)) (k.heap.set 60 id (.cells (oldA ++ newA) elem true)) := by
  obtain ⟨cap, rest, h1, h2, h3⟩ := run_append_new (P := P) (ty := o.type) hT hz hzs hx hold hol hneed hle hb hroom
  have gd := g.drew
  have hsi : σ id = none := by
    cases hq : σ id with
    | none => rfl
    | some q => obtain ⟨q', hq'⟩ := g.dom id q hq; rw [hid] at hq'; cases hq'
  have hle2 := Rho.le_put (x := (w.heap.size, some cap)) hsi
  have hl : LR (σ.put id (w.heap.size, some cap)) (oldA ++ newA) ((old.toArray ++ (new.toArray ++ rest)).toList.take (oldA ++ newA).length) := by
    have : (old.toArray ++ (new.toArray ++ rest)).toList.take (oldA ++ newA).length = old ++ new := by
      rw [(holdR.append hnew).length]
      simp only [Array.toList_append, ← List.append_assoc]
      rw [List.take_left']
      simp
    rw [this]
    exact (holdR.append hnew).mono hle2
  obtain ⟨g2, st⟩ := gd.new (k := some cap) (o := .cells (oldA ++ newA) elem true) hid h50 trivial
    (ob := .cells (old.toArray ++ (new.toArray ++ rest)) elem) ⟨_, rfl, hl, fun h => (by cases h), fun K hK => by cases hK; exact ⟨rfl, info, hT.info, h3⟩⟩
  rw [hk]
  refine ⟨.value (.slice (some ⟨w.heap.size, 0, none⟩) (sLen + n) cap), _, _, _, ?_, .inl rfl, .grow (Rho.put_same _ _ _) h1 (fun _ => rfl), g2, st⟩
  rw [hex, hr]
  simp [h2, Result.andThen]

theorem append_sound (g : G P B W σ h.heap w) {o : Oper} {s x : Operand} {ts : Array TypeId} {u j v : Value} {h' : H} (ho : o.op = .call { callee := .builtin .append, args := #[s, x], argTypes := ts })
    (hu : VR σ u (ρ s)) (hj : VR σ j (ρ x)) (hs : appendAt P ts u j h = some (v, h')) : LoudOut P B W ρ o σ h.heap w v h'.heap := by
  have hex : execOp ρ o = (do pure (.value (← Builtin.append_ ts o.type #[ρ s, ρ x])) : Sem Next) := by simp [execOp, ho, resolve, invoke, builtin]
  unfold appendAt at hs
  split at hs
  · rename_i st xt h1 h2
    split at hs
    · rename_i elem xd h3 h4
      split at hs
      · rename_i info z h5 h6 h7
        have hT : AppT P ts elem info := ⟨⟨st, h1, h3⟩, ⟨xt, xd, h2, h4, h7⟩, h5⟩
        simp only at hs
        split at hs
        · rename_i n newA hsrc
          split at hs
          · cases hs
          rename_i hnz
          simp only [not_or, ne_eq, Decidable.not_not] at hnz
          obtain ⟨hz1, hz2, hz3⟩ := hnz
          obtain ⟨new, hx, hnew⟩ := src_sound (P := P) g hj hsrc
          split at hs
          · rename_i len cap
            have hr := flat0_eq hu rfl
            split at hs
            · cases hs
            rename_i hlc
            simp only [not_or, ne_eq, Decidable.not_not] at hlc
            obtain ⟨rfl, rfl⟩ := hlc
            split at hs
            · rename_i hn
              cases hs
              subst hn
              refine ⟨.value (.slice none 0 0), _, w, σ, ?_, .inl rfl, .flat0 _ rfl, g, StepR.refl _ _⟩
              have hnil : new = [] := by
                have := hx.size
                cases new with
                | nil => rfl
                | cons _ _ => simp at this
              subst hnil
              obtain ⟨⟨st, q1, q2⟩, ⟨xt, d, q3, q4, q5⟩, q6⟩ := hT
              have e1 := run_underlying (P := P) q2 w
              have e2 := run_underlying (P := P) q4 w
              have hsz : ∀ w, (sizeOf elem).run P w = .ok info.size w := fun w => by simp [sizeOf, typeInfo, q6, Result.andThen]
              rw [hex, hr]
              cases d <;> (try (exfalso; simp [isIntD] at q5; done)) <;> simp [Builtin.append_, q1, q3, e1, e2, hsz, hx.len, hx.cells w rfl, Result.andThen]
            · rename_i hn
              split at hs
              · cases hs
              · rename_i hid
                split at hs
                · rename_i hh
                  cases hs
                  have hid' : h.heap.get h.next = none := by
                    cases hq : h.heap.get h.next with
                    | none => rfl
                    | some _ => rw [hq] at hid; simp at hid
                  have := append_new (P := P) g hex hT h6 hz3 hr hx hnew (oldA := []) (old := []) (fun w' _ => by simp [Builtin.firstCells]) .nil (by simp) (by omega) (by omega) hz2 (by simpa using hh.1) (k := h) rfl hid' hh.2
                  simpa using this
                · cases hs
          · rename_i b off len cap
            obtain ⟨b', cap', kk, hr, hsb, hk1, hk2⟩ := slice_inv hu
            split at hs
            · rename_i c e gr hb
              split at hs
              · cases hs
              rename_i hee
              simp only [not_or, ne_eq, Decidable.not_not, Nat.not_lt] at hee
              obtain ⟨rfl, hlen⟩ := hee
              obtain ⟨c', hw, hl, hc1, hc2⟩ := g.cells hsb hb
              split at hs
              · rename_i hneed
                split at hs
                · rename_i h50
                  split at hs
                  · rename_i c2 hp
                    cases hs
                    obtain ⟨q3, q4, q5⟩ := cells_put (P := P) (e := e) hnew hp hl hc1 hc2
                    obtain ⟨g2, st2⟩ := g.write hsb hb trivial (o2 := .cells c2 e gr) trivial h50 q3
                    have hput := run_put (P := P) hw q4 q5
                    have hneed' : len + n ≤ cap' := by
                      cases kk with
                      | none => rw [hk1 rfl]; exact hneed
                      | some K => exact Nat.le_trans hneed (hk2 K rfl).1
                    have hrun := run_append_in (P := P) (ty := o.type) hT (sCap := cap') hx hneed' hput
                    refine ⟨.value (.slice (some ⟨b', off, none⟩) (len + n) cap'), _, _, σ, ?_, .inl rfl, ?_, g2, st2⟩
                    · rw [hex, hr]; simp [hrun, Result.andThen]
                    · cases kk with
                      | none => rw [hk1 rfl]; exact .slice hsb
                      | some K => exact .grow hsb (hk2 K rfl).1 (hk2 K rfl).2
                  · cases hs
                · cases hs
              · rename_i hneed
                split at hs
                · cases hs
                rename_i hid
                have hid' : h.heap.get h.next = none := by
                  cases hq : h.heap.get h.next with
                  | none => rfl
                  | some _ => rw [hq] at hid; simp at hid
                split at hs
                · rename_i hh
                  obtain ⟨hroom, hn50, hb50, hone⟩ := hh
                  obtain ⟨old, ho1, ho2⟩ := run_loadRow2 (P := P) (b' := b') (e := e) (fr := (0, 0)) hl off (len * info.size) hlen
                  have hol : old.length = len * info.size := by
                    have := ho2.length
                    rw [← this, List.length_take, List.length_drop]
                    omega
                  have hold : ∀ w' : World, w'.heap = w.heap → ∀ c, (Builtin.firstCells info.size len (.slice (some ⟨b', off, none⟩) len c)).run P w' = .ok old.toArray w' := fun w' hw' c => by
                    simp [Builtin.firstCells, ho1 w' (by rw [hw']; exact hw)]
                  split at hs
                  · rename_i hgr
                    split at hs
                    · cases hs
                    · rename_i hoff
                      simp only [ne_eq, Decidable.not_not] at hoff
                      subst hoff
                      cases hs
                      have hkk : ∃ K, kk = some K := by
                        cases kk with
                        | none => rw [(hc1 rfl).1] at hgr; simp at hgr
                        | some K => exact ⟨K, rfl⟩
                      obtain ⟨K, rfl⟩ := hkk
                      have hcap : cap' = K := (hk2 K rfl).2 rfl
                      subst hcap
                      obtain ⟨hgt, i2, hi2, hcs⟩ := hc2 cap' rfl
                      rw [hT.info] at hi2; cases hi2
                      by_cases hin : len + n ≤ cap'
                      · -- in place
                        have hnl : new.length = n * info.size := hx.size
                        have hfit : 0 + len * info.size + new.length ≤ c'.size := by
                          rw [hcs, hnl, Nat.zero_add, ← Nat.add_mul]
                          exact Nat.mul_le_mul_right _ hin
                        have hone' : ∀ v ∈ new, v.oneCell' = true := by
                          have : ∀ {a a' : List Value}, LR σ a a' → a.all (·.oneCell') = true → ∀ v ∈ a', v.oneCell' = true := by
                            intro a a' hl
                            induction hl with
                            | nil => intro _ v hv; simp at hv
                            | cons hv _ ih =>
                              intro ha v hm
                              simp only [List.all_cons, Bool.and_eq_true] at ha
                              rcases List.mem_cons.1 hm with rfl | hm
                              · rw [VR.oneCell hv]; exact ha.1
                              · exact ih ha.2 v hm
                          exact this hnew hone
                        have hput := run_put (P := P) (off := 0 + len * info.size) hw (by omega) hone'
                        have hrun := run_append_in (P := P) (ty := o.type) hT (off := 0) (sCap := cap') hx hin (by simpa using hput)
                        have hsi : σ h.next = none := by
                          cases hq : σ h.next with
                          | none => rfl
                          | some q => obtain ⟨q', hq'⟩ := g.dom _ q hq; rw [hid'] at hq'; cases hq'
                        have hle2 := Rho.le_put (x := (b', some cap')) hsi
                        have hlr : LR (σ.put h.next (b', some cap')) (((c.drop 0).take (len * info.size)) ++ newA) ((arrPut c' (0 + len * info.size) new).toList.take (((c.drop 0).take (len * info.size)) ++ newA).length) := by
                          have hpre : LR σ ((c.drop 0).take (len * info.size)) (c'.toList.take (len * info.size)) := by
                            have := hl.take (len * info.size)
                            rw [List.take_take] at this
                            rw [List.drop_zero]
                            have e1 : min (len * info.size) c.length = len * info.size := by omega
                            rwa [e1] at this
                          have hl1 : ((c.drop 0).take (len * info.size)).length = len * info.size := by rw [List.length_take, List.length_drop]; omega
                          have e2 : (arrPut c' (0 + len * info.size) new).toList.take (((c.drop 0).take (len * info.size)) ++ newA).length = c'.toList.take (len * info.size) ++ new := by
                            rw [List.length_append, hl1, hnew.length, Nat.zero_add]
                            exact arrPut_take new c' (len * info.size) (by have : c'.toList.length = c'.size := Array.length_toList; omega)
                          rw [e2]
                          exact (hpre.append hnew).mono hle2
                        obtain ⟨g2, st2⟩ := g.move hsb hb trivial hid' hb50 hn50 (o2 := .cells (((c.drop 0).take (len * info.size)) ++ newA) e true) trivial
                          (ob := .cells (arrPut c' (0 + len * info.size) new) e) ⟨_, rfl, hlr, fun h => (by cases h), fun K hK => by cases hK; exact ⟨rfl, info, hT.info, by rw [arrPut_size]; exact hcs⟩⟩
                        refine ⟨.value (.slice (some ⟨b', 0, none⟩) (len + n) cap'), _, _, _, ?_, .inl rfl, .grow (Rho.put_same _ _ _) hin (fun _ => rfl), g2, st2⟩
                        rw [hex, hr]; simp [hrun, Result.andThen]
                      · obtain ⟨g2, st2⟩ := g.gone hsb hb hb50
                        have hne : h.next ≠ b := fun e => by rw [e] at hid'; rw [hid'] at hb; cases hb
                        have hid2 : (h.heap.set 60 b .gone).get h.next = none := by rw [Tr.get_set_other _ _ _ _ _ hne]; exact hid'
                        obtain ⟨nx, v', w', τ, r1, r2, r3, r4, r5⟩ := append_new (P := P) (h := { h with heap := h.heap.set 60 b .gone }) g2 hex hT h6 hz3 hr hx hnew (fun w' hw' => hold w' hw' cap') ho2 hol hin (by omega) hz2 hroom (k := { h with heap := h.heap.set 60 b .gone }) rfl hid2 hn50
                        exact ⟨nx, v', w', τ, r1, r2, r3, r4, st2.trans r5⟩
                  · rename_i hgr
                    cases hs
                    have hkk : kk = none := by
                      cases kk with
                      | none => rfl
                      | some K => exact absurd (hc2 K rfl).1 hgr
                    subst hkk
                    have hcap := hk1 rfl
                    subst hcap
                    exact append_new (P := P) g hex hT h6 hz3 hr hx hnew (fun w' hw' => hold w' hw' cap') ho2 hol hneed (by omega) hz2 hroom (k := h) rfl hid' hn50
                · cases hs
            · cases hs
          · cases hs
        · cases hs
      · cases hs
    · cases hs
  · cases hs
end Go.Proofs.YtjiekjfbllinbaaDoor.Rx
