/- The reader's memory and the model's: which values are one; small laws. -/
import Derived.Test.YtjiekjfbllinbaaDoorRa
namespace Go.Proofs.YtjiekjfbllinbaaDoor.Rx
open Go
set_option linter.unusedSectionVars false
set_option linter.unusedVariables false
set_option linter.unusedSimpArgs false

theorem Tr.get_set_same {α : Type} (x : α) : ∀ (f k : Nat) (t : Tr α), k + 1 < 2 ^ f → (Tr.set f t k x).get k = some x
  | 0, k, t, h => by simp at h
  | f + 1, 0, .nil, _ => rfl
  | f + 1, 0, .node _ _ _, _ => rfl
  | f + 1, n + 1, .nil, h => by
    have hn : n / 2 + 1 < 2 ^ f := by rw [Nat.pow_succ] at h; omega
    have ih := Tr.get_set_same x f (n / 2) .nil hn
    rcases Nat.mod_two_eq_zero_or_one n with e | e <;> simp [Tr.set, Tr.get, e, ih]
  | f + 1, n + 1, .node v l r, h => by
    have hn : n / 2 + 1 < 2 ^ f := by rw [Nat.pow_succ] at h; omega
    rcases Nat.mod_two_eq_zero_or_one n with e | e
    · simp [Tr.set, Tr.get, e, Tr.get_set_same x f (n / 2) l hn]
    · simp [Tr.set, Tr.get, e, Tr.get_set_same x f (n / 2) r hn]

theorem Tr.get_set_other {α : Type} (x : α) : ∀ (f k : Nat) (t : Tr α) (j : Nat), j ≠ k → (Tr.set f t k x).get j = t.get j
  | 0, _, _, _, _ => rfl
  | f + 1, 0, .nil, j, h => by cases j with | zero => simp at h | succ j => simp [Tr.set, Tr.get]; split <;> simp [Tr.get]
  | f + 1, 0, .node _ _ _, j, h => by cases j with | zero => simp at h | succ j => simp [Tr.set, Tr.get]
  | f + 1, n + 1, .nil, j, h => by
    cases j with
    | zero => rcases Nat.mod_two_eq_zero_or_one n with e | e <;> simp [Tr.set, Tr.get, e]
    | succ j =>
      rcases Nat.mod_two_eq_zero_or_one n with e | e <;> rcases Nat.mod_two_eq_zero_or_one j with e' | e' <;> simp [Tr.set, Tr.get, e, e']
      · rw [Tr.get_set_other x f (n / 2) .nil (j / 2) (by omega)]; simp [Tr.get]
      · rw [Tr.get_set_other x f (n / 2) .nil (j / 2) (by omega)]; simp [Tr.get]
  | f + 1, n + 1, .node v l r, j, h => by
    cases j with
    | zero => rcases Nat.mod_two_eq_zero_or_one n with e | e <;> simp [Tr.set, Tr.get, e]
    | succ j =>
      rcases Nat.mod_two_eq_zero_or_one n with e | e <;> rcases Nat.mod_two_eq_zero_or_one j with e' | e' <;> simp [Tr.set, Tr.get, e, e']
      · exact Tr.get_set_other x f (n / 2) l (j / 2) (by omega)
      · exact Tr.get_set_other x f (n / 2) r (j / 2) (by omega)

theorem Tr.get_set_or {α : Type} (x : α) : ∀ (f k : Nat) (t : Tr α), (Tr.set f t k x).get k = some x ∨ (Tr.set f t k x).get k = t.get k
  | 0, _, _ => .inr rfl
  | f + 1, 0, .nil => .inl rfl
  | f + 1, 0, .node _ _ _ => .inl rfl
  | f + 1, n + 1, .nil => by
    rcases Nat.mod_two_eq_zero_or_one n with e | e <;> simp [Tr.set, Tr.get, e]
    · rcases Tr.get_set_or x f (n / 2) .nil with h | h
      · exact .inl h
      · right; rw [h]; rfl
    · rcases Tr.get_set_or x f (n / 2) .nil with h | h
      · exact .inl h
      · right; rw [h]; rfl
  | f + 1, n + 1, .node v l r => by
    rcases Nat.mod_two_eq_zero_or_one n with e | e
    · simp only [Tr.set, Tr.get, e]; exact Tr.get_set_or x f (n / 2) l
    · simp only [Tr.set, Tr.get, e]; exact Tr.get_set_or x f (n / 2) r

/-- Where the reader's blocks lie; of a row that an append made: its capacity. -/
abbrev Rho := Nat → Option (Nat × Option Nat)

def Rho.le (σ τ : Rho) : Prop := ∀ b x, σ b = some x → τ b = some x
theorem Rho.le_refl (σ : Rho) : σ.le σ := fun _ _ h => h
theorem Rho.le_trans {a b c : Rho} (h : a.le b) (k : b.le c) : a.le c := fun x y z => k x y (h x y z)
def Rho.put (σ : Rho) (b : Nat) (x : Nat × Option Nat) : Rho := fun k => if k = b then some x else σ k
theorem Rho.le_put {σ : Rho} {b : Nat} {x : Nat × Option Nat} (h : σ b = none) : σ.le (σ.put b x) := fun k y hk => by
  unfold Rho.put; split
  · rename_i e; subst e; rw [h] at hk; cases hk
  · exact hk
theorem Rho.put_same (σ : Rho) (b : Nat) (x : Nat × Option Nat) : σ.put b x b = some x := by simp [Rho.put]
theorem Rho.put_other (σ : Rho) {b k : Nat} (x : Nat × Option Nat) (h : k ≠ b) : σ.put b x k = σ k := by simp [Rho.put, h]

/-- What '.chan (some k)' stands for. -/
class Opq where
  val : Nat → Option Value
variable [Opq]

/-- A value of the reader's is one of the model's. -/
inductive VR (σ : Rho) : Value → Value → Prop
  | flat0 (v : Value) (h : Rx.flat0 v = true) : VR σ v v
  | ptr {b b' off : Nat} {k : Option Nat} (h : σ b = some (b', k)) : VR σ (.pointer (some ⟨b, off, none⟩)) (.pointer (some ⟨b', off, none⟩))
  | slice {b b' off l c : Nat} (h : σ b = some (b', none)) : VR σ (.slice (some ⟨b, off, none⟩) l c) (.slice (some ⟨b', off, none⟩) l c)
  | grow {b b' off l c c' K : Nat} (h : σ b = some (b', some K)) (hc : c ≤ c') (h0 : off = 0 → c' = K) : VR σ (.slice (some ⟨b, off, none⟩) l c) (.slice (some ⟨b', off, none⟩) l c')
  | map {b b' : Nat} {k : Option Nat} (h : σ b = some (b', k)) : VR σ (.map (some b)) (.map (some b'))
  | func {fn : Fn} {a a' c c' : Array Value} (hf : fnOk fn = true) (h1 : a.size = a'.size) (h2 : ∀ (i : Nat) (v v' : Value), a[i]? = some v → a'[i]? = some v' → VR σ v v')
      (h3 : c.size = c'.size) (h4 : ∀ (i : Nat) (v v' : Value), c[i]? = some v → c'[i]? = some v' → VR σ v v') : VR σ (.func fn a c) (.func fn a' c')
  | iface {t : TypeId} {v v' : Value} (h : VR σ v v') : VR σ (.iface t v) (.iface t v')
  | lost {a' : Addr} {c' : Nat} : VR σ (.slice (some ⟨0, 0, some 0⟩) 0 0) (.slice (some a') 0 c')
  | opq {k : Nat} {v' : Value} (h : Opq.val k = some v') (h1 : v'.oneCell' = true) : VR σ (.chan (some k)) v'
  | agg {a a' : Array Value} (h1 : a.size = a'.size) (h2 : ∀ (i : Nat) (v v' : Value), a[i]? = some v → a'[i]? = some v' → VR σ v v') : VR σ (.agg a) (.agg a')
  | tuple {a a' : Array Value} (h1 : a.size = a'.size) (h2 : ∀ (i : Nat) (v v' : Value), a[i]? = some v → a'[i]? = some v' → VR σ v v') : VR σ (.tuple a) (.tuple a')

theorem VR.mono {σ τ : Rho} (h : σ.le τ) {v v' : Value} (hv : VR σ v v') : VR τ v v' := by
  induction hv with
  | flat0 v h => exact .flat0 v h
  | ptr e => exact .ptr (h _ _ e)
  | slice e => exact .slice (h _ _ e)
  | grow e hc h0 => exact .grow (h _ _ e) hc h0
  | map e => exact .map (h _ _ e)
  | func hf h1 h2 h3 h4 i2 i4 => exact .func hf h1 i2 h3 i4
  | iface _ ih => exact .iface ih
  | lost => exact .lost
  | opq e h1 => exact .opq e h1
  | agg h1 h2 i2 => exact .agg h1 i2
  | tuple h1 h2 i2 => exact .tuple h1 i2

/-- Two arrays of values. -/
structure AR (σ : Rho) (a a' : Array Value) : Prop where
  size : a.size = a'.size
  get : ∀ (i : Nat) (v v' : Value), a[i]? = some v → a'[i]? = some v' → VR σ v v'

/-- Two lists of values. -/
inductive LR (σ : Rho) : List Value → List Value → Prop
  | nil : LR σ [] []
  | cons {v v' : Value} {l l' : List Value} (h : VR σ v v') (t : LR σ l l') : LR σ (v :: l) (v' :: l')

theorem LR.mono {σ τ : Rho} (h : σ.le τ) {l l' : List Value} (hl : LR σ l l') : LR τ l l' := by
  induction hl with
  | nil => exact .nil
  | cons hv _ ih => exact .cons (hv.mono h) ih
theorem LR.length {σ : Rho} {l l' : List Value} (h : LR σ l l') : l.length = l'.length := by
  induction h with
  | nil => rfl
  | cons _ _ ih => simp [ih]
theorem LR.get {σ : Rho} {l l' : List Value} (h : LR σ l l') : ∀ (i : Nat) (v v' : Value), l[i]? = some v → l'[i]? = some v' → VR σ v v' := by
  induction h with
  | nil => intro i v v' h; simp at h
  | cons hv _ ih =>
    intro i v v' h1 h2
    cases i with
    | zero => simp at h1 h2; subst h1; subst h2; exact hv
    | succ i => exact ih i v v' (by simpa using h1) (by simpa using h2)
theorem LR.of_get {σ : Rho} : ∀ {l l' : List Value}, l.length = l'.length → (∀ (i : Nat) (v v' : Value), l[i]? = some v → l'[i]? = some v' → VR σ v v') → LR σ l l'
  | [], [], _, _ => .nil
  | [], _ :: _, h, _ => by simp at h
  | _ :: _, [], h, _ => by simp at h
  | x :: l, y :: l', h, hg => .cons (hg 0 x y rfl rfl) (LR.of_get (by simpa using h) fun i v v' h1 h2 => hg (i + 1) v v' (by simpa using h1) (by simpa using h2))
theorem LR.some {σ : Rho} {l l' : List Value} (h : LR σ l l') {i : Nat} {v : Value} (hi : l[i]? = some v) : ∃ v', l'[i]? = some v' ∧ VR σ v v' := by
  have hl : i < l.length := by
    rcases Nat.lt_or_ge i l.length with h | h
    · exact h
    · rw [List.getElem?_eq_none h] at hi; cases hi
  have hl' : i < l'.length := h.length ▸ hl
  exact ⟨l'[i], List.getElem?_eq_getElem hl', h.get i _ _ hi (List.getElem?_eq_getElem hl')⟩
theorem LR.append {σ : Rho} {a a' b b' : List Value} (h : LR σ a a') (k : LR σ b b') : LR σ (a ++ b) (a' ++ b') := by
  induction h with
  | nil => exact k
  | cons hv _ ih => exact .cons hv ih
theorem LR.drop {σ : Rho} (n : Nat) : ∀ {a a' : List Value}, LR σ a a' → LR σ (a.drop n) (a'.drop n) := by
  induction n with
  | zero => intro a a' h; simpa using h
  | succ n ih => intro a a' h; cases h with
    | nil => exact .nil
    | cons _ t => simpa using ih t
theorem LR.take {σ : Rho} (n : Nat) : ∀ {a a' : List Value}, LR σ a a' → LR σ (a.take n) (a'.take n) := by
  induction n with
  | zero => intro a a' h; simpa using .nil
  | succ n ih => intro a a' h; cases h with
    | nil => exact .nil
    | cons hv t => simpa using .cons hv (ih t)
theorem LR.set {σ : Rho} {a a' : List Value} (h : LR σ a a') {v v' : Value} (hv : VR σ v v') : ∀ (i : Nat), LR σ (a.set i v) (a'.set i v') := by
  induction h with
  | nil => intro i; simpa using .nil
  | cons hx t ih => intro i; cases i with
    | zero => simpa using .cons hv t
    | succ i => simpa using .cons hx (ih i)

theorem AR.toLR {σ : Rho} {a a' : Array Value} (h : AR σ a a') : LR σ a.toList a'.toList :=
  LR.of_get (by simpa using h.size) fun i v v' h1 h2 => h.get i v v' (by simpa using h1) (by simpa using h2)
theorem AR.of {σ : Rho} {a a' : Array Value} (h : LR σ a.toList a'.toList) : AR σ a a' :=
  ⟨by simpa using h.length, fun i v v' h1 h2 => h.get i v v' (by simpa using h1) (by simpa using h2)⟩
theorem AR.some {σ : Rho} {a a' : Array Value} (h : AR σ a a') {i : Nat} {v : Value} (hi : a[i]? = Option.some v) : ∃ v', a'[i]? = Option.some v' ∧ VR σ v v' := by
  obtain ⟨v', h1, h2⟩ := h.toLR.some (i := i) (v := v) (by simpa using hi)
  exact ⟨v', by simpa using h1, h2⟩
theorem VR.agg' {σ : Rho} {a a' : Array Value} (h : AR σ a a') : VR σ (.agg a) (.agg a') := .agg h.size h.get
theorem VR.tuple' {σ : Rho} {a a' : Array Value} (h : AR σ a a') : VR σ (.tuple a) (.tuple a') := .tuple h.size h.get

/-! ### Values without addresses -/

theorem flat0_eq {σ : Rho} {v v' : Value} (h : VR σ v v') (hf : flat0 v = true) : v' = v := by
  cases h <;> first | rfl | simp [flat0] at hf

theorem list_eq {σ : Rho} {p : Value → Bool} {l l' : List Value} (h : LR σ l l') (hp : l.all p = true) (hq : ∀ v v', VR σ v v' → p v = true → v' = v) : l' = l := by
  induction h with
  | nil => rfl
  | cons hv _ ih =>
    simp only [List.all_cons, Bool.and_eq_true] at hp
    rw [hq _ _ hv hp.1, ih hp.2]

theorem flat_eq {σ : Rho} : ∀ (n : Nat) {v v' : Value}, VR σ v v' → flat n v = true → v' = v
  | 0, v, v', h, hf => by
    have : flat0 v = true := by simpa [flat] using hf
    exact flat0_eq h this
  | n + 1, v, v', h, hf => by
    cases h with
    | flat0 v h => rfl
    | iface h => rw [flat_eq n h (by simpa [flat] using hf)]
    | agg h1 h2 =>
      simp only [flat] at hf
      have := list_eq (AR.toLR ⟨h1, h2⟩) hf fun v v' hv hp => flat_eq n hv hp
      rw [Array.ext' this]
    | tuple h1 h2 =>
      simp only [flat] at hf
      have := list_eq (AR.toLR ⟨h1, h2⟩) hf fun v v' hv hp => flat_eq n hv hp
      rw [Array.ext' this]
    | func hfn h1 h2 h3 h4 =>
      simp only [flat, Bool.and_eq_true] at hf
      have e1 := list_eq (AR.toLR ⟨h1, h2⟩) hf.1.2 fun v v' hv hp => flat_eq n hv hp
      have e2 := list_eq (AR.toLR ⟨h3, h4⟩) hf.2 fun v v' hv hp => flat_eq n hv hp
      rw [Array.ext' e1, Array.ext' e2]
    | _ => simp [flat, flat0] at hf

theorem LR.of_all {σ : Rho} {p : Value → Bool} (hq : ∀ v, p v = true → VR σ v v) : ∀ {l : List Value}, l.all p = true → LR σ l l
  | [], _ => .nil
  | x :: l, h => by
    simp only [List.all_cons, Bool.and_eq_true] at h
    exact .cons (hq x h.1) (LR.of_all hq h.2)

theorem flat_self {σ : Rho} : ∀ (n : Nat) {v : Value}, flat n v = true → VR σ v v
  | 0, v, h => .flat0 v (by simpa [flat] using h)
  | n + 1, v, h => by
    cases v with
    | agg cs => exact .agg' (AR.of (LR.of_all (fun v hv => flat_self n hv) (by simpa only [flat] using h)))
    | tuple cs => exact .tuple' (AR.of (LR.of_all (fun v hv => flat_self n hv) (by simpa only [flat] using h)))
    | iface t v => exact .iface (flat_self n (by simpa only [flat] using h))
    | func fn a b =>
      simp only [flat, Bool.and_eq_true] at h
      have h1 := AR.of (LR.of_all (σ := σ) (fun v hv => flat_self n hv) h.1.2)
      have h2 := AR.of (LR.of_all (σ := σ) (fun v hv => flat_self n hv) h.2)
      exact .func h.1.1 h1.size h1.get h2.size h2.get
    | _ => exact .flat0 _ (by simpa only [flat] using h)

theorem run_aspure {α : Type} (P : Program) {s : Sem α} {a : α} (h : aspure P s = some a) (w : World) : s.run P w = .ok a w := by
  induction s with
  | pure b => simp [aspure] at h; subst h; rfl
  | program k ih => exact ih P (by simpa [aspure] using h)
  | mark m k ih => simpa [Sem.run] using ih (by simpa [aspure] using h)
  | _ => simp [aspure] at h

theorem all2_eq {f : Value → Value → Bool} (hf : ∀ x y, f x y = true → x = y) : ∀ {l m : List Value}, all2 f l m = true → l = m
  | [], [], _ => rfl
  | [], _ :: _, h => by simp [all2] at h
  | _ :: _, [], h => by simp [all2] at h
  | x :: l, y :: m, h => by
    simp only [all2, Bool.and_eq_true] at h
    rw [hf _ _ h.1, all2_eq hf h.2]

theorem eqv_eq : ∀ (n : Nat) {x y : Value}, eqv n x y = true → x = y := by
  intro n
  induction n with
  | zero => intro x y h; cases x <;> cases y <;> simp_all [eqv]
  | succ n ih =>
    intro x y h
    cases x <;> cases y <;> simp only [eqv, Bool.and_eq_true, decide_eq_true_eq, beq_iff_eq, reduceCtorEq, Bool.false_eq_true] at h <;> try (simp_all; done)
    · rw [h.1.1, Array.ext' (all2_eq (fun x y => ih) h.1.2), Array.ext' (all2_eq (fun x y => ih) h.2)]
    · rw [h.1, ih h.2]
    · rw [Array.ext' (all2_eq (fun x y => ih) h)]
    · rw [Array.ext' (all2_eq (fun x y => ih) h)]

/-! ### Cells put into a row -/

/-- Cells put into a row, one behind the other. -/
def arrPut (c : Array Value) (off : Nat) : List Value → Array Value
  | [] => c
  | v :: vs => arrPut (c.setIfInBounds off v) (off + 1) vs
theorem arrPut_size : ∀ (vs : List Value) (c : Array Value) (off : Nat), (arrPut c off vs).size = c.size
  | [], _, _ => rfl
  | v :: vs, c, off => by unfold arrPut; rw [arrPut_size vs]; simp

theorem over_length : ∀ (c vs : List Value), vs.length ≤ c.length → (over c vs).length = c.length
  | c, [], _ => by cases c <;> rfl
  | [], _ :: _, h => by simp at h
  | x :: c, v :: vs, h => by simp only [over, List.length_cons]; rw [over_length c vs (by simpa using h)]
theorem splice_length : ∀ (c : List Value) (n : Nat) (vs : List Value), n + vs.length ≤ c.length → (splice c n vs).length = c.length
  | c, 0, vs, h => by cases c <;> exact over_length _ vs (by simpa using h)
  | [], n + 1, vs, h => by simp at h
  | x :: c, n + 1, vs, h => by simp only [splice, List.length_cons]; rw [splice_length c n vs (by simp only [List.length_cons] at h; omega)]
theorem splice_cons : ∀ (c : List Value) (n : Nat) (v : Value) (vs : List Value), n < c.length → splice c n (v :: vs) = splice (c.set n v) (n + 1) vs
  | [], n, v, vs, h => by simp at h
  | x :: c, 0, v, vs, _ => by cases c <;> rfl
  | x :: c, n + 1, v, vs, h => by simp only [splice, List.set_cons_succ]; rw [splice_cons c n v vs (by simpa using h)]
theorem splice_nil : ∀ (c : List Value) (n : Nat), n ≤ c.length → splice c n [] = c
  | c, 0, _ => by cases c <;> rfl
  | [], n + 1, h => by simp at h
  | x :: c, n + 1, h => by simp only [splice]; rw [splice_nil c n (by simpa using h)]
theorem arrPut_splice : ∀ (vs : List Value) (c : Array Value) (off : Nat), off + vs.length ≤ c.size → (arrPut c off vs).toList = splice c.toList off vs
  | [], c, off, h => by rw [splice_nil _ _ (by simpa using h)]; rfl
  | v :: vs, c, off, h => by
    simp only [List.length_cons] at h
    unfold arrPut
    rw [arrPut_splice vs _ _ (by simp; omega), Array.toList_setIfInBounds, splice_cons _ _ _ _ (by simp; omega)]
theorem over_take : ∀ (c vs : List Value) (n : Nat), vs.length ≤ n → over (c.take n) vs = (over c vs).take n
  | c, [], n, _ => by cases c <;> cases n <;> rfl
  | [], _ :: _, n, _ => by cases n <;> rfl
  | x :: c, v :: vs, 0, h => by simp at h
  | x :: c, v :: vs, n + 1, h => by simp only [List.take_succ_cons, over]; rw [over_take c vs n (by simpa using h)]
theorem splice_take : ∀ (c : List Value) (off : Nat) (vs : List Value) (n : Nat), off + vs.length ≤ n → splice (c.take n) off vs = (splice c off vs).take n
  | c, 0, vs, n, h => by
    have := over_take c vs n (by simpa using h)
    cases c <;> cases n <;> simpa [splice] using this
  | [], off + 1, vs, n, _ => by cases n <;> rfl
  | x :: c, off + 1, vs, 0, h => by omega
  | x :: c, off + 1, vs, n + 1, h => by simp only [List.take_succ_cons, splice]; rw [splice_take c off vs n (by omega)]
section
variable {σ : Rho}
theorem LR.over {vs vs' : List Value} (hv : LR σ vs vs') : ∀ {c c' : List Value}, LR σ c c' → LR σ (over c vs) (over c' vs') := by
  induction hv with
  | nil => intro c c' h; cases h <;> simp only [Rx.over] <;> first | exact .nil | exact .cons ‹_› ‹_›
  | cons hx _ ih =>
    intro c c' h
    cases h with
    | nil => exact .nil
    | cons _ ht => exact .cons hx (ih ht)
theorem LR.splice {vs vs' : List Value} (hv : LR σ vs vs') : ∀ (n : Nat) {c c' : List Value}, LR σ c c' → LR σ (splice c n vs) (splice c' n vs')
  | 0, c, c', h => by cases h with
    | nil => exact LR.over hv .nil
    | cons a b => exact LR.over hv (.cons a b)
  | n + 1, c, c', h => by cases h with
    | nil => exact .nil
    | cons a b => exact .cons a (LR.splice hv n b)

end

theorem zeros_get (z : Array Value) (n : Nat) : ((Array.range (n * z.size)).map (z[· % z.size]!)).toList = zeros z.toList n := by
  induction n with
  | zero => simp [zeros]
  | succ n ih =>
    by_cases h0 : z.size = 0
    · have : z = #[] := Array.eq_empty_of_size_eq_zero h0
      subst this
      have : ∀ k, zeros (#[] : Array Value).toList k = [] := fun k => by induction k with
        | zero => rfl
        | succ k ihk => simpa [zeros] using ihk
      simp [this]
    · unfold zeros
      rw [← ih]
      apply List.ext_getElem?
      intro i
      rw [List.getElem?_append]
      simp only [Array.length_toList, Array.toList_map, List.getElem?_map, Array.toList_range, List.getElem?_range]
      by_cases hi : i < z.size
      · have h1 : i < (n + 1) * z.size := by rw [Nat.add_mul]; omega
        rw [if_pos hi]
        simp only [h1, List.getElem?_range, Option.map_some, Nat.mod_eq_of_lt hi]
        rw [getElem!_pos z i hi]
        simp [hi]
      · rw [if_neg hi]
        by_cases h2 : i < (n + 1) * z.size
        · have h3 : i - z.size < n * z.size := by rw [Nat.add_mul] at h2; omega
          have h4 : (i - z.size) % z.size = i % z.size := by
            conv => rhs; rw [show i = (i - z.size) + z.size by omega]
            rw [Nat.add_mod_right]
          simp only [h2, h3, List.getElem?_range, Option.map_some, h4]
        · have h3 : ¬ (i - z.size) < n * z.size := by rw [Nat.add_mul] at h2; omega
          rw [List.getElem?_eq_none (by simpa using h2), List.getElem?_eq_none (by simpa using h3)]
end Go.Proofs.YtjiekjfbllinbaaDoor.Rx
