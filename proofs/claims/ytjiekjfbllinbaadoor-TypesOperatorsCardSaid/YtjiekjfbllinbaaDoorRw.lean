/- What the reader takes as known: faults.Kind and faults.Where of an error that faults.New made. -/
import Derived.Test.YtjiekjfbllinbaaDoorRq
import Derived.Test.YtjiekjfbllinbaaDoorFErr
namespace Go.Proofs.YtjiekjfbllinbaaDoor.Rx
open Go
set_option linter.unusedSectionVars false
set_option linter.unusedVariables false
set_option linter.unusedSimpArgs false
variable [Opq] [Hints] [HintsOk Tryd.prog]

theorem G.later {P : Program} [HintsOk P] {B : Nat} {W w w' : World} {σ : Rho} {h : Tr AObj} (g : G P B W σ h w) (hb : RowKit.Below w.heap.size w w') : G P B W σ h w' :=
  ⟨fun b b' k o h1 h2 h3 => by
      obtain ⟨o', h4, h5⟩ := g.obj b b' k o h1 h2 h3
      exact ⟨o', by rw [hb.block b' (g.lt h1 h2 h3)]; exact h4, h5⟩,
    g.dom, g.inj, g.own, g.glob, Nat.le_trans g.base hb.size, g.below.trans (hb.mono g.base)⟩

/-- The block of an error that faults.New made. -/
def errAt (h : Tr AObj) (args : List Value) : Option (Int × Int × Int) :=
  match args with
  | [.iface t (.pointer (some ⟨b, 0, none⟩))] =>
    if t = 94 then
      match h.get b with
      | some (.cells [.int .i64 l, .int .i64 c, .string s, .bool false, .iface t2 (.int .i64 k)] _ _) =>
        if t2 = 62 ∧ 1 ≤ k ∧ k ≤ 12 ∧ s = ⟨#[]⟩ then some (k, l, c) else none
      | _ => none
    else none
  | _ => none

theorem errAt_sound {B : Nat} {W w : World} {σ : Rho} {h : Tr AObj} (g : G Tryd.prog B W σ h w) {args args' : List Value} (hl : LR σ args args') {k l c : Int} (he : errAt h args = some (k, l, c)) :
    ∃ b', args' = [.iface 94 (.pointer (some ⟨b', 0, none⟩))] ∧ IsErr w b' k l c ∧ 1 ≤ k ∧ k ≤ 12 := by
  unfold errAt at he
  split at he
  · rename_i t b
    split at he
    · rename_i ht
      subst ht
      split at he
      · rename_i l' c' s t2 k' e gr hb
        split at he
        · rename_i hh
          obtain ⟨rfl, h1, h2, rfl⟩ := hh
          cases he
          cases hl with
          | cons hv tl =>
            cases tl
            obtain ⟨v', rfl, hv'⟩ := iface_inv hv
            obtain ⟨b', kk, rfl, hs⟩ := ptr_inv hv'
            obtain ⟨r, hw, hr, _⟩ := g.cells hs hb
            have cell : ∀ i x, ([Value.int .i64 l, .int .i64 c, .string ⟨#[]⟩, .bool false, .iface 62 (.int .i64 k)] : List Value)[i]? = some x → flat 3 x = true → w.cell? ⟨b', i, none⟩ = some x := by
              intro i x hi hf
              obtain ⟨x', h3, h4⟩ := hr.some hi
              have h5 := flat_eq 3 h4 hf
              subst h5
              rw [cell_of_row w b' i r e (0, 0) hw]
              rw [List.getElem?_take] at h3
              split at h3
              · simpa using h3
              · cases h3
            exact ⟨b', rfl, ⟨cell 0 _ rfl rfl, cell 1 _ rfl rfl, cell 2 _ rfl rfl, cell 3 _ rfl rfl, cell 4 _ rfl rfl⟩, h1, h2⟩
        · cases he
      · cases he
    · cases he
  · cases he

/-- Kind and Where. -/
def kwO : CallF := fun f args h =>
  if f = 11 then
    match errAt h.heap args with
    | some (k, _, _) => some (.int .i64 k, h)
    | none => none
  else if f = 12 then
    match errAt h.heap args with
    | some (_, l, c) => some (.agg #[.int .i64 l, .int .i64 c], h)
    | none => none
  else none

theorem kwO_sound : CallSound Tryd.prog kwO := by
  intro f args h v k hk B W σ w args' hl g
  unfold kwO at hk
  split at hk
  · rename_i hf
    subst hf
    split at hk
    · rename_i k' l c he
      cases hk
      obtain ⟨b', rfl, hi, h1, h2⟩ := errAt_sound g hl he
      refine (kind_err hi h1 h2).mono ?_
      rintro e w' ⟨rfl, hb⟩
      exact ⟨_, σ, rfl, .flat0 _ rfl, g.later hb, StepR.refl _ _⟩
    · cases hk
  · split at hk
    · rename_i hf
      subst hf
      split at hk
      · rename_i k' l c he
        cases hk
        obtain ⟨b', rfl, hi, h1, h2⟩ := errAt_sound g hl he
        refine (where_err hi).mono ?_
        rintro e w' ⟨rfl, hb⟩
        exact ⟨_, σ, rfl, flat_self 2 (by rfl), g.later hb, StepR.refl _ _⟩
      · cases hk
    · cases hk
end Go.Proofs.YtjiekjfbllinbaaDoor.Rx
