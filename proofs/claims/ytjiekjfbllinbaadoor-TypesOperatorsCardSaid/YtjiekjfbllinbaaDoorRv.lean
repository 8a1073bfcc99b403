/- TypesOperators: what the law hangs on is three remainders. -/
import Derived.Test.YtjiekjfbllinbaaDoorRw
namespace Go.Proofs.YtjiekjfbllinbaaDoor.Rx
open Go
set_option linter.unusedSectionVars false
set_option linter.unusedVariables false
set_option linter.unusedSimpArgs false
/-- The remainders of the three numbers, as the law takes them. -/
abbrev hintT (c a4 b4 : Int) : Hints := ⟨fun op _ u v => match op with
  | .rem => match u, v with
    | .chan (some 0), .int .u8 14 => some (.int .u8 c)
    | .chan (some 0), .int .u8 2 => some (.int .u8 (c % 2))
    | .chan (some 1), .int .u8 4 => some (.int .u8 a4)
    | .chan (some 2), .int .u8 4 => some (.int .u8 b4)
    | _, _ => none
  | _ => none⟩
def gl : List (Nat × List Value) := [(0, [.int .u8 2, .string ⟨#[]⟩]), (1, [.int .u8 1, .string ⟨#[]⟩])]
/-- Are the two variables what they are? -/
def glOk (h : Tr AObj) : Bool :=
  match h.get 0, h.get 1 with
  | some (.glob [.int .u8 2, .string s] _), some (.glob [.int .u8 1, .string t] _) => decide (s = ⟨#[]⟩) && decide (t = ⟨#[]⟩)
  | _, _ => false
/-- Kind, Where, and the law's awake. -/
def awO : CallF := fun f args h =>
  if f = 6 then (match args, glOk h.heap with | [], true => some (.bool true, h) | _, _ => none)
  else kwO f args h
def argsT3 : List Value := [.chan (some 0), .chan (some 1), .chan (some 2)]
noncomputable def chk (c a4 b4 : Int) : Bool := @saysTrue (hintT c a4 b4) Tryd.prog awO 100000 3 argsT3 gl (3 + 5)

abbrev opq0 : Opq := ⟨fun _ => none⟩
theorem hints0 (P : Program) : @HintsOk P opq0 noHints := by letI := opq0; letI := noHints; exact ⟨fun _ _ _ _ _ _ h => by cases h⟩

/-- The variables hold that. -/
def GlIn (W : World) : Prop := W.cell? ⟨0, 0, none⟩ = some (.int .u8 2) ∧ W.cell? ⟨0, 1, none⟩ = some (.string ⟨#[]⟩) ∧
  W.cell? ⟨1, 0, none⟩ = some (.int .u8 1) ∧ W.cell? ⟨1, 1, none⟩ = some (.string ⟨#[]⟩)
theorem GlIn.all {W : World} (h : GlIn W) : ∀ g vs, (g, vs) ∈ gl → ∀ (i : Nat) (v : Value), vs[i]? = some v → W.cell? ⟨g, i, none⟩ = some v := by
  obtain ⟨h1, h2, h3, h4⟩ := h
  intro g vs hm i v hv
  unfold gl at hm
  simp only [List.mem_cons, Prod.mk.injEq, List.not_mem_nil, or_false] at hm
  rcases hm with ⟨rfl, rfl⟩ | ⟨rfl, rfl⟩ <;> (rcases i with _ | _ | i <;> simp at hv <;> subst hv <;> assumption)

set_option maxRecDepth 1000000 in
set_option maxHeartbeats 0 in
theorem awake_true : @saysTrue noHints Tryd.prog kwO 100000 6 [] gl (3 + 5) = true := by kernel_rfl

theorem awake_any {W : World} (h : GlIn W) : Calls Tryd.prog 6 #[] W fun e w' => e = .returned (.bool true) ∧ RowKit.Below W.heap.size W w' := by
  letI := opq0
  letI := noHints
  haveI := hints0 Tryd.prog
  exact says (P := Tryd.prog) (by kernel_rfl) kwO_sound (args' := []) awake_true W .nil (by rfl) h.all

theorem glOk_sound [Opq] [Hints] [HintsOk Tryd.prog] {B : Nat} {W w : World} {σ : Rho} {h : Tr AObj} (g : G Tryd.prog B W σ h w) (hk : glOk h = true) : GlIn w := by
  unfold glOk at hk
  split at hk
  · rename_i s e1 t e2 h1 h2
    simp only [Bool.and_eq_true, decide_eq_true_eq] at hk
    obtain ⟨rfl, rfl⟩ := hk
    have cell : ∀ (b : Nat) (c : List Value) (e : TypeId), h.get b = some (.glob c e) → ∀ i x, c[i]? = some x → flat 3 x = true → w.cell? ⟨b, i, none⟩ = some x := by
      intro b c e hb i x hi hf
      obtain ⟨c', e', fr, hw, hr⟩ := g.row (g.glob _ _ _ hb) (.inr ⟨e, hb⟩)
      obtain ⟨x', h3, h4⟩ := hr.some hi
      have h5 := flat_eq 3 h4 hf
      subst h5
      rw [cell_of_row w b i c' e' fr hw]
      rw [List.getElem?_take] at h3
      split at h3
      · simpa using h3
      · cases h3
    exact ⟨cell _ _ _ h1 0 _ rfl rfl, cell _ _ _ h1 1 _ rfl rfl, cell _ _ _ h2 0 _ rfl rfl, cell _ _ _ h2 1 _ rfl rfl⟩
  · cases hk

theorem awO_sound [Opq] [Hints] [HintsOk Tryd.prog] : CallSound Tryd.prog awO := by
  intro f args h v k hk B W σ w args' hl g
  unfold awO at hk
  split at hk
  · rename_i hf
    subst hf
    split at hk
    · rename_i hok
      cases hk
      cases hl
      refine (awake_any (glOk_sound g hok)).mono ?_
      rintro e w' ⟨rfl, hb⟩
      exact ⟨_, σ, rfl, .flat0 _ rfl, g.later hb, StepR.refl _ _⟩
    · cases hk
  · exact kwO_sound f args h v k hk B W σ w args' hl g

abbrev opqT (op a b : Int) : Opq := ⟨fun k => if k = 0 then some (.int .u8 op) else if k = 1 then some (.int .u8 a) else if k = 2 then some (.int .u8 b) else none⟩

theorem rem_run {P : Program} (t : TypeId) (x n : Int) (h0 : 0 ≤ x) (h1 : x < 256) (hn : 0 < n) (hn2 : n < 256) (y z : Operand) (w : World) :
    (do eqGuard .rem t y z (.int .u8 x) (.int .u8 n); binOp .rem t (.int .u8 x) (.int .u8 n) : Sem Value).run P w = .ok (.int .u8 (x % n)) w := by
  have h2 : x.tmod n = x % n := Int.tmod_eq_emod_of_nonneg h0
  have h3 : 0 ≤ x % n := Int.emod_nonneg _ (by omega)
  have h4 : x % n < n := Int.emod_lt_of_pos _ hn
  have h5 : n ≠ 0 := by omega
  simp [eqGuard_at_int, binOp, Op.intDiv, h5, h2]

theorem hintT_cases {c a4 b4 : Int} {o : BinOp} {t : TypeId} {u v r : Value} (h : (hintT c a4 b4).hint o t u v = some r) : o = .rem ∧
    ((u = .chan (some 0) ∧ v = .int .u8 14 ∧ r = .int .u8 c) ∨ (u = .chan (some 0) ∧ v = .int .u8 2 ∧ r = .int .u8 (c % 2)) ∨ (u = .chan (some 1) ∧ v = .int .u8 4 ∧ r = .int .u8 a4) ∨ (u = .chan (some 2) ∧ v = .int .u8 4 ∧ r = .int .u8 b4)) := by
  unfold hintT at h
  dsimp only at h
  split at h
  · split at h
    · cases h; exact ⟨rfl, .inl ⟨rfl, rfl, rfl⟩⟩
    · cases h; exact ⟨rfl, .inr (.inl ⟨rfl, rfl, rfl⟩)⟩
    · cases h; exact ⟨rfl, .inr (.inr (.inl ⟨rfl, rfl, rfl⟩))⟩
    · cases h; exact ⟨rfl, .inr (.inr (.inr ⟨rfl, rfl, rfl⟩))⟩
    · cases h
  · cases h

theorem hintT_ok (op a b : Int) (h0 : 0 ≤ op ∧ op < 256) (h1 : 0 ≤ a ∧ a < 256) (h2 : 0 ≤ b ∧ b < 256) : @HintsOk Tryd.prog (opqT op a b) (hintT (op % 14) (a % 4) (b % 4)) := by
  letI := opqT op a b
  letI := hintT (op % 14) (a % 4) (b % 4)
  refine ⟨fun σ o t u v r h u' v' hu hv => ?_⟩
  have key : ∀ (k : Nat) (x n : Int), 0 ≤ x → x < 256 → 0 < n → n < 256 → Opq.val k = some (.int .u8 x) → u = .chan (some k) → v = .int .u8 n → r = .int .u8 (x % n) → o = .rem →
      ∃ r', (∀ (y z : Operand) (w : World), (do eqGuard o t y z u' v'; binOp o t u' v' : Sem Value).run Tryd.prog w = .ok r' w) ∧ VR σ r r' := by
    rintro k x n g0 g1 g2 g3 g4 rfl rfl rfl rfl
    have hv' := int_inv hv
    subst hv'
    cases hu with
    | flat0 _ h => simp [flat0] at h
    | opq e _ =>
      rw [g4] at e
      cases e
      exact ⟨_, fun y z w => rem_run t x n g0 g1 g2 g3 y z w, .flat0 _ rfl⟩
  obtain ⟨rfl, h | h | h | h⟩ := hintT_cases h
  · obtain ⟨rfl, rfl, rfl⟩ := h; exact key 0 op 14 h0.1 h0.2 (by omega) (by omega) rfl rfl rfl rfl rfl
  · obtain ⟨rfl, rfl, rfl⟩ := h
    have e : op % 14 % 2 = op % 2 := by omega
    exact key 0 op 2 h0.1 h0.2 (by omega) (by omega) rfl rfl rfl (by rw [e]) rfl
  · obtain ⟨rfl, rfl, rfl⟩ := h; exact key 1 a 4 h1.1 h1.2 (by omega) (by omega) rfl rfl rfl rfl rfl
  · obtain ⟨rfl, rfl, rfl⟩ := h; exact key 2 b 4 h2.1 h2.2 (by omega) (by omega) rfl rfl rfl rfl rfl

theorem ops_any (hall : ∀ c a b : Int, 0 ≤ c → c < 14 → 0 ≤ a → a < 4 → 0 ≤ b → b < 4 → chk c a b = true) (op a b : Int) (h0 : 0 ≤ op ∧ op < 256) (h1 : 0 ≤ a ∧ a < 256) (h2 : 0 ≤ b ∧ b < 256) {W : World} (hg : GlIn W) :
    Calls Tryd.prog 3 #[.int .u8 op, .int .u8 a, .int .u8 b] W fun e w' => e = .returned (.bool true) ∧ RowKit.Below W.heap.size W w' := by
  letI := opqT op a b
  letI := hintT (op % 14) (a % 4) (b % 4)
  haveI := hintT_ok op a b h0 h1 h2
  have hc := hall (op % 14) (a % 4) (b % 4) (by omega) (by omega) (by omega) (by omega) (by omega) (by omega)
  exact says (P := Tryd.prog) (by kernel_rfl) awO_sound (args' := [.int .u8 op, .int .u8 a, .int .u8 b]) hc W (.cons (.opq rfl rfl) (.cons (.opq rfl rfl) (.cons (.opq rfl rfl) .nil))) (by rfl) hg.all
end Go.Proofs.YtjiekjfbllinbaaDoor.Rx
