/- Calls, one operation, operations in the order of the text. -/
import Derived.Test.YtjiekjfbllinbaaDoorRj
namespace Go.Proofs.YtjiekjfbllinbaaDoor.Rx
open Go
set_option linter.unusedSectionVars false
set_option linter.unusedVariables false
set_option linter.unusedSimpArgs false
variable [Opq] [Hints]
variable {P : Program} [HintsOk P]

/-- What a call that the reader knows comes to. -/
def CallSound (P : Program) (F : CallF) : Prop := ∀ f args h v k, F f args h = some (v, k) → ∀ (B : Nat) (W : World) (σ : Rho) (w : World) (args' : List Value), LR σ args args' → G P B W σ h.heap w →
  Calls P f args'.toArray w fun e w' => ∃ v' τ, e = .returned v' ∧ VR τ v v' ∧ G P B W τ k.heap w' ∧ StepR σ h.heap τ k.heap

section
variable {E : Ev} {σ : Rho} {ρ : Operand → Value} {w W : World} {B : Nat} {h : H}

theorem run_callFunc {f : FuncId} (hf : enters P f = true) (args : Array Value) : (callFunc f args).run P w = .ok (.enter f args) w := by
  unfold enters at hf
  cases hfn : P.funcs[f]? with
  | none => simp [hfn] at hf
  | some fn =>
    simp only [hfn, Bool.and_eq_true, Bool.not_eq_true', beq_eq_false_iff_ne, ne_eq] at hf
    obtain ⟨h1, h2⟩ := hf
    cases hb : fn.body with
    | none => simp [hb] at h1
    | some c => simp [callFunc, hfn, h2, hb]

theorem target_sound {c : Call} {ty : TypeId} {f : FuncId} {args : List Value} (ht : target P E c = some (f, args)) (hE : Ops E σ ρ (Op.operands (.call c))) :
    ∃ args', (do let d ← resolve ρ c ty; invoke d.target d.args : Sem Next).run P w = .ok (.enter f args'.toArray) w ∧ LR σ args args' := by
  unfold target at ht
  split at ht
  · rename_i f0 args0 ht0
    split at ht
    · rename_i hen
      cases ht
      obtain ⟨callee, as, ts⟩ := c
      unfold target0 at ht0
      split at ht0
      · cases ht0
      · rename_i vs hvs
        simp only [Op.operands, Call.operands] at hE
        have hl : LR σ vs (as.toList.map ρ) := evAll_sound hvs fun x hx v hv => hE x (Array.mem_append.2 (.inr (by simpa using hx))) v hv
        cases callee with
        | value g =>
          simp only at ht0
          split at ht0
          · rename_i f1 first captured hg
            cases ht0
            have hv := hE g (by simp) _ hg
            generalize hr : ρ g = r at hv
            cases hv with
            | flat0 _ h => simp [flat0] at h
            | @func _ _ a' _ c' hfn h1 h2 h3 h4 =>
              refine ⟨a'.toList ++ as.toList.map ρ ++ c'.toList, ?_, ((AR.toLR ⟨h1, h2⟩).append hl).append (AR.toLR ⟨h3, h4⟩)⟩
              simp only [resolve, hr, Deferred.ofValue, Sem.run_bind, Sem.run_pure, Result.andThen, invoke]
              rw [run_callFunc hen]
              congr 2
              apply Array.ext'
              simp
          · cases ht0
        | invoke g name =>
          simp only at ht0
          split at ht0
          · rename_i t v hg
            have hv := hE g (by simp) _ hg
            obtain ⟨v', hr, hv'⟩ := iface_inv hv
            split at ht0
            · rename_i info d hi hu
              split at ht0
              · rename_i m hm
                have hu' := run_underlying (P := P) hu w
                have hi' := run_typeInfo (P := P) hi w
                obtain ⟨fuel, hfuel⟩ : ∃ n, P.types.size + Made.depth = n + 1 := ⟨P.types.size + (Made.depth - 1), by simp [Made.depth]⟩
                have hrun : ∀ F, (method (fuel + 1) t v' name).run P w = .ok (F, v') w → enters P F = true →
                    (do let d ← resolve ρ { callee := .invoke g name, args := as, argTypes := ts } ty; invoke d.target d.args : Sem Next).run P w = .ok (.enter F (v' :: as.toList.map ρ).toArray) w := by
                  intro F hF hen
                  simp only [resolve, hr, Sem.run_bind, Sem.run_pure, Result.andThen, invoke]
                  have h0 : (#[Value.iface t v'] ++ as.map ρ)[0]? = some (.iface t v') := by rw [Array.getElem?_append_left (by simp)]; rfl
                  simp only [h0, callMethod, Sem.run_bind, run_program, Result.andThen, hfuel, hF]
                  rw [run_callFunc hen]
                  congr 2
                  apply Array.ext'
                  simp [List.take_of_length_le]
                split at ht0
                · rename_i f2 hp hf2
                  split at ht0
                  · rename_i pe
                    cases ht0
                    refine ⟨v' :: as.toList.map ρ, hrun _ ?_ hen, .cons hv' hl⟩
                    have hpath : m.path.toList = [] := hp
                    simp only [method, Sem.run_bind, hi', Result.andThen, hm, hpath, follow, Sem.run_pure, hf2, receiverAt, hu', Place.get]
                  · cases ht0
                · rename_i f2 hp hf2
                  split at ht0
                  · cases ht0
                  · rename_i hd
                    cases ht0
                    refine ⟨v' :: as.toList.map ρ, hrun _ ?_ hen, .cons hv' hl⟩
                    have hpath : m.path.toList = [] := hp
                    cases d <;> first | exact absurd rfl (hd _) | simp only [method, Sem.run_bind, hi', Result.andThen, hm, hpath, follow, Sem.run_pure, hf2, receiverAt, hu', Place.get]
                · cases ht0
              · cases ht0
            · cases ht0
          · cases ht0
        | builtin b => cases ht0
    · cases ht
  · cases ht
end
end Go.Proofs.YtjiekjfbllinbaaDoor.Rx
