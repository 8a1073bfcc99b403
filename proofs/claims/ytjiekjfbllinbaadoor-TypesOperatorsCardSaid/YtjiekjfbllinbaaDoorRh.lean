/- What the reader's memory says, behind a store, a new block, an append. -/
import Derived.Test.YtjiekjfbllinbaaDoorRg
namespace Go.Proofs.YtjiekjfbllinbaaDoor.Rx
open Go
set_option linter.unusedSectionVars false
set_option linter.unusedVariables false
set_option linter.unusedSimpArgs false
variable [Opq] [Hints]
variable {P : Program} [HintsOk P]

/-- How the reader's memory goes on: what the model has not got yet stays. -/
structure StepR (σ : Rho) (h : Tr AObj) (τ : Rho) (k : Tr AObj) : Prop where
  le : σ.le τ
  keep : ∀ b o, σ b = none → h.get b = some o → τ b = none ∧ k.get b = some o

theorem StepR.refl (σ : Rho) (h : Tr AObj) : StepR σ h σ h := ⟨σ.le_refl, fun _ _ h1 h2 => ⟨h1, h2⟩⟩
theorem StepR.trans {σ τ υ : Rho} {h k l : Tr AObj} (a : StepR σ h τ k) (b : StepR τ k υ l) : StepR σ h υ l :=
  ⟨Rho.le_trans a.le b.le, fun x o h1 h2 => let ⟨h3, h4⟩ := a.keep x o h1 h2; b.keep x o h3 h4⟩

def wset (w : World) (b : Nat) (o : Obj) : World := { w with heap := w.heap.setIfInBounds b o }

theorem wset_same {w : World} {b : Nat} {o : Obj} (h : w.heap[b]? = some o) : wset w b o = w := by
  have : w.heap.setIfInBounds b o = w.heap := by
    apply Array.ext_getElem?
    intro i
    rw [Array.getElem?_setIfInBounds]
    split
    · rename_i e
      subst e
      have hlt : b < w.heap.size := by
        rcases Nat.lt_or_ge b w.heap.size with h1 | h1
        · exact h1
        · rw [Array.getElem?_eq_none h1] at h; cases h
      rw [if_pos hlt, h]
    · rfl
  unfold wset
  rw [this]
theorem wset_wset (w : World) (b : Nat) (o q : Obj) : wset (wset w b o) b q = wset w b q := by
  unfold wset
  simp
theorem wset_get {w : World} {b : Nat} {o q : Obj} (h : w.heap[b]? = some q) : (wset w b o).heap[b]? = some o := by
  have hlt : b < w.heap.size := by
    rcases Nat.lt_or_ge b w.heap.size with h1 | h1
    · exact h1
    · rw [Array.getElem?_eq_none h1] at h; cases h
  show (w.heap.setIfInBounds b o)[b]? = _
  rw [Array.getElem?_setIfInBounds, if_pos rfl, if_pos hlt]
theorem wset_other {w : World} {b k : Nat} {o : Obj} (h : k ≠ b) : (wset w b o).heap[k]? = w.heap[k]? := by
  show (w.heap.setIfInBounds b o)[k]? = _
  rw [Array.getElem?_setIfInBounds, if_neg (fun e => h e.symm)]
theorem wset_size (w : World) (b : Nat) (o : Obj) : (wset w b o).heap.size = w.heap.size := by simp [wset]

theorem setCell_wset {w : World} {b off : Nat} {c : Array Value} {e : TypeId} {fr : Nat × Nat} (v : Value) (h : w.heap[b]? = some (.cells c e fr)) :
    w.setCell ⟨b, off, none⟩ v = wset w b (.cells (c.setIfInBounds off v) e fr) := by
  unfold World.setCell wset
  congr 1
  apply Array.ext_getElem?
  intro i
  rw [Array.getElem?_setIfInBounds, Array.getElem?_modify]
  by_cases hi : b = i
  · subst hi
    have hlt : b < w.heap.size := by
      rcases Nat.lt_or_ge b w.heap.size with h1 | h1
      · exact h1
      · rw [Array.getElem?_eq_none h1] at h; cases h
    have hg : w.heap[b] = .cells c e fr := by rw [Array.getElem?_eq_getElem hlt] at h; exact Option.some.inj h
    simp [hlt, hg]
  · simp [hi]

theorem arrPut_take : ∀ (vs : List Value) (c : Array Value) (off : Nat), off + vs.length ≤ c.toList.length → (arrPut c off vs).toList.take (off + vs.length) = c.toList.take off ++ vs
  | [], c, off, _ => by simp [arrPut]
  | v :: vs, c, off, h => by
    simp only [List.length_cons] at h
    unfold arrPut
    have := arrPut_take vs (c.setIfInBounds off v) (off + 1) (by simp only [Array.toList_setIfInBounds, List.length_set]; omega)
    rw [show off + (v :: vs).length = off + 1 + vs.length by simp only [List.length_cons]; omega, this, Array.toList_setIfInBounds]
    have e : (c.toList.set off v).take (off + 1) = c.toList.take off ++ [v] := by
      rw [List.take_add_one, List.take_set_of_le (Nat.le_refl _), List.getElem?_set_self (by omega)]
      rfl
    rw [e, List.append_assoc]
    rfl

theorem run_storeCells (b off : Nat) (e : TypeId) : ∀ (vs : List Value) (i : Nat) (c : Array Value) (w : World), w.heap[b]? = some (.cells c e (0, 0)) → off + i + vs.length ≤ c.size → (∀ v ∈ vs, v.oneCell' = true) →
    (storeCells ⟨b, off, none⟩ vs i).run P w = .ok () (wset w b (.cells (arrPut c (off + i) vs) e (0, 0)))
  | [], i, c, w, h, _, _ => by simp [storeCells, arrPut, wset_same h]
  | v :: vs, i, c, w, h, hs, ho => by
    have hv := ho v (by simp)
    simp only [List.length_cons] at hs
    have hc : w.cell? ⟨b, off + i, none⟩ = some (c[off + i]'(by omega)) := by
      rw [cell_of_row w b (off + i) c e (0, 0) h]
      exact Array.getElem?_eq_getElem (by omega)
    have hf : w.frozen? ⟨b, off + i, none⟩ = false := frozen_of_row w b (off + i) c e h
    have hst : (store ((⟨b, off, none⟩ : Addr).add i) v).run P w = .ok () (wset w b (.cells (c.setIfInBounds (off + i) v) e (0, 0))) := by
      rw [cell_add, run_store P w _ v _ hv]
      simp only [hc, hf, Bool.false_eq_true, if_false]
      rw [setCell_wset v h]
    have ih := run_storeCells b off e vs (i + 1) (c.setIfInBounds (off + i) v) (wset w b (.cells (c.setIfInBounds (off + i) v) e (0, 0))) (wset_get h) (by simp; omega) (fun u hu => ho u (by simp [hu]))
    unfold storeCells
    simp only [Sem.run_bind, hst, Result.andThen]
    rw [ih, wset_wset, arrPut]
    rfl

section
variable {σ : Rho} {w W : World} {B : Nat} {h : Tr AObj}

theorem VR.oneCell {v v' : Value} (hv : VR σ v v') : v'.oneCell' = v.oneCell' := by cases hv <;> first | rfl | assumption

theorem listPut_sound {vs vs' : List Value} (hl : LR σ vs vs') {c r : List Value} {off : Nat} {c' : Array Value} (h : listPut c off vs = some r) (hc : LR σ c (c'.toList.take c.length)) :
    r.length = c.length ∧ off + vs.length ≤ c.length + (if vs.length = 0 then off else 0) ∧ LR σ r ((arrPut c' off vs').toList.take r.length) ∧ ∀ v ∈ vs', v.oneCell' = true := by
  unfold listPut at h
  split at h
  · rename_i hb
    split at h
    · rename_i ho
      cases h
      have hb := Nat.le_of_ble_eq_true hb
      have hlen := splice_length c off vs hb
      have hcl : c.length ≤ c'.size := by
        have := hc.length
        simp only [List.length_take, Array.length_toList] at this
        omega
      refine ⟨hlen, by omega, ?_, ?_⟩
      · rw [hlen, arrPut_splice vs' c' off (by rw [← hl.length]; omega), ← splice_take _ _ _ _ (by rw [← hl.length]; exact hb)]
        exact LR.splice hl off hc
      · have : ∀ {a a' : List Value}, LR σ a a' → a.all (·.oneCell') = true → ∀ v ∈ a', v.oneCell' = true := by
          intro a a' hl
          induction hl with
          | nil => intro _ v hv; simp at hv
          | cons hv _ ih =>
            intro ha v hm
            simp only [List.all_cons, Bool.and_eq_true] at ha
            rcases List.mem_cons.1 hm with rfl | hm
            · rw [VR.oneCell hv]; exact ha.1
            · exact ih ha.2 v hm
        exact this hl ho
    · cases h
  · cases h

theorem G.lt (g : G P B W σ h w) {b b' : Nat} {k : Option Nat} {o : AObj} (hs : σ b = some (b', k)) (hb : h.get b = some o) (hl : o.live) : b' < w.heap.size := by
  obtain ⟨o', h1, _⟩ := g.obj _ _ _ _ hs hb hl
  rcases Nat.lt_or_ge b' w.heap.size with h2 | h2
  · exact h2
  · rw [Array.getElem?_eq_none h2] at h1; cases h1

theorem below_wset {B : Nat} {W w : World} (hb : RowKit.Below B W w) {b : Nat} (hB : B ≤ b) (o : Obj) : RowKit.Below B W (wset w b o) :=
  hb.trans ⟨rfl, rfl, rfl, by rw [wset_size]; exact Nat.le_refl _, fun k hk => wset_other (by omega)⟩

theorem two50 {b : Nat} (h : b < 2 ^ 50) : b + 1 < 2 ^ 60 := by
  have : (2 : Nat) ^ 50 < 2 ^ 60 := by decide
  omega

/-- A block of the reader's is written. -/
theorem G.write (g : G P B W σ h w) {b b' : Nat} {k : Option Nat} {o o2 : AObj} {ob : Obj} (hs : σ b = some (b', k)) (hb : h.get b = some o) (hm : o.mine) (hm2 : o2.mine) (h50 : b < 2 ^ 50) (ho : ORel P σ k o2 ob) :
    G P B W σ (h.set 60 b o2) (wset w b' ob) ∧ StepR σ h σ (h.set 60 b o2) := by
  have hlt := g.lt hs hb hm.live
  obtain ⟨q, hq, _⟩ := g.obj _ _ _ _ hs hb hm.live
  have hsame : (h.set 60 b o2).get b = some o2 := Tr.get_set_same _ _ _ _ (two50 h50)
  have hoth : ∀ j, j ≠ b → (h.set 60 b o2).get j = h.get j := fun j hj => Tr.get_set_other _ _ _ _ _ hj
  refine ⟨⟨?_, ?_, ?_, ?_, ?_, ?_, below_wset g.below (g.own _ _ _ _ hs hb hm) _⟩, ?_⟩
  · intro c c' l p hc hp hl
    by_cases e : c = b
    · subst e
      rw [hs] at hc; cases hc
      rw [hsame] at hp; cases hp
      exact ⟨ob, wset_get hq, ho⟩
    · rw [hoth c e] at hp
      obtain ⟨p', h1, h2⟩ := g.obj _ _ _ _ hc hp hl
      refine ⟨p', ?_, h2⟩
      rw [wset_other fun e' => e (by subst e'; exact g.inj _ _ _ _ _ _ _ hc hs hp hl hb hm.live)]
      exact h1
  · intro c x hc
    by_cases e : c = b
    · subst e; exact ⟨_, hsame⟩
    · rw [hoth c e]; exact g.dom c x hc
  · intro c d c' l l' p q' h1 h2 h3 h4 h5 h6
    have f : ∀ x y, (h.set 60 b o2).get x = some y → y.live → ∃ y', h.get x = some y' ∧ y'.live := fun x y hx hy => by
      by_cases e : x = b
      · subst e; exact ⟨o, hb, hm.live⟩
      · rw [hoth x e] at hx; exact ⟨y, hx, hy⟩
    obtain ⟨y1, f1, f2⟩ := f _ _ h3 h4
    obtain ⟨y2, f3, f4⟩ := f _ _ h5 h6
    exact g.inj _ _ _ _ _ _ _ h1 h2 f1 f2 f3 f4
  · intro c c' l p hc hp hmp
    by_cases e : c = b
    · subst e; exact g.own _ _ _ _ hc hb hm
    · rw [hoth c e] at hp; exact g.own _ _ _ _ hc hp hmp
  · intro c p e' hp
    by_cases e : c = b
    · subst e; rw [hsame] at hp; cases hp; exact hm2.elim
    · rw [hoth c e] at hp; exact g.glob _ _ _ hp
  · rw [wset_size]; exact g.base
  · refine ⟨σ.le_refl, fun c p hc hp => ⟨hc, ?_⟩⟩
    rw [hoth c (fun e => by subst e; rw [hs] at hc; cases hc)]
    exact hp

/-- A new block. -/
theorem G.new (g : G P B W σ h w) {id : Nat} {k : Option Nat} {o : AObj} {ob : Obj} (hid : h.get id = none) (h50 : id < 2 ^ 50) (hm : o.mine) (ho : ORel P (σ.put id (w.heap.size, k)) k o ob) :
    G P B W (σ.put id (w.heap.size, k)) (h.set 60 id o) (w.alloc ob) ∧ StepR σ h (σ.put id (w.heap.size, k)) (h.set 60 id o) := by
  have hs : σ id = none := by
    cases hx : σ id with
    | none => rfl
    | some x => obtain ⟨q, hq⟩ := g.dom id x hx; rw [hid] at hq; cases hq
  have hle := Rho.le_put (x := (w.heap.size, k)) hs
  have hsame : (h.set 60 id o).get id = some o := Tr.get_set_same _ _ _ _ (two50 h50)
  have hoth : ∀ j, j ≠ id → (h.set 60 id o).get j = h.get j := fun j hj => Tr.get_set_other _ _ _ _ _ hj
  refine ⟨⟨?_, ?_, ?_, ?_, ?_, ?_, g.below.alloc g.base _⟩, hle, ?_⟩
  · intro c c' l p hc hp hl
    by_cases e : c = id
    · subst e
      rw [Rho.put_same] at hc; cases hc
      rw [hsame] at hp; cases hp
      exact ⟨ob, heap_alloc_new w ob, ho⟩
    · rw [hoth c e] at hp
      rw [Rho.put_other _ _ e] at hc
      obtain ⟨p', h1, h2⟩ := g.obj _ _ _ _ hc hp hl
      exact ⟨p', by rw [heap_alloc_old w ob c' (g.lt hc hp hl)]; exact h1, h2.mono hle⟩
  · intro c x hc
    by_cases e : c = id
    · subst e; exact ⟨_, hsame⟩
    · rw [Rho.put_other _ _ e] at hc; rw [hoth c e]; exact g.dom c x hc
  · intro c d c' l l' p q h1 h2 h3 h4 h5 h6
    by_cases e : c = id <;> by_cases e' : d = id
    · rw [e, e']
    · exfalso
      subst e
      rw [Rho.put_same] at h1; cases h1
      rw [Rho.put_other _ _ e'] at h2
      rw [hoth d e'] at h5
      exact absurd (g.lt h2 h5 h6) (Nat.lt_irrefl _)
    · exfalso
      subst e'
      rw [Rho.put_same] at h2; cases h2
      rw [Rho.put_other _ _ e] at h1
      rw [hoth c e] at h3
      exact absurd (g.lt h1 h3 h4) (Nat.lt_irrefl _)
    · rw [Rho.put_other _ _ e] at h1
      rw [Rho.put_other _ _ e'] at h2
      rw [hoth c e] at h3
      rw [hoth d e'] at h5
      exact g.inj _ _ _ _ _ _ _ h1 h2 h3 h4 h5 h6
  · intro c c' l p hc hp hmp
    by_cases e : c = id
    · subst e; rw [Rho.put_same] at hc; cases hc; exact g.base
    · rw [Rho.put_other _ _ e] at hc; rw [hoth c e] at hp; exact g.own _ _ _ _ hc hp hmp
  · intro c p e' hp
    by_cases e : c = id
    · subst e; rw [hsame] at hp; cases hp; exact hm.elim
    · rw [hoth c e] at hp; exact hle _ _ (g.glob _ _ _ hp)
  · have := g.base; simp only [World.size_alloc]; omega
  · intro c p hc hp
    have e : c ≠ id := fun e => by subst e; rw [hid] at hp; cases hp
    rw [Rho.put_other _ _ e, hoth c e]
    exact ⟨hc, hp⟩

theorem G.drew (g : G P B W σ h w) : G P B W σ h w.drew := ⟨g.obj, g.dom, g.inj, g.own, g.glob, g.base, g.below.drew⟩

/-- A row that an append made goes on under another number. -/
theorem G.move (g : G P B W σ h w) {b b' id K : Nat} {o o2 : AObj} {ob : Obj} (hs : σ b = some (b', some K)) (hb : h.get b = some o) (hm : o.mine) (hid : h.get id = none) (h50 : b < 2 ^ 50) (h51 : id < 2 ^ 50) (hm2 : o2.mine)
    (ho : ORel P (σ.put id (b', some K)) (some K) o2 ob) : G P B W (σ.put id (b', some K)) ((h.set 60 b .gone).set 60 id o2) (wset w b' ob) ∧ StepR σ h (σ.put id (b', some K)) ((h.set 60 b .gone).set 60 id o2) := by
  have hsi : σ id = none := by
    cases hx : σ id with
    | none => rfl
    | some x => obtain ⟨q, hq⟩ := g.dom id x hx; rw [hid] at hq; cases hq
  have hne : b ≠ id := fun e => by subst e; rw [hid] at hb; cases hb
  have hle := Rho.le_put (x := (b', some K)) hsi
  have hsame : ((h.set 60 b .gone).set 60 id o2).get id = some o2 := Tr.get_set_same _ _ _ _ (two50 h51)
  have hgone : ((h.set 60 b .gone).set 60 id o2).get b = some .gone := by rw [Tr.get_set_other _ _ _ _ _ hne]; exact Tr.get_set_same _ _ _ _ (two50 h50)
  have hoth : ∀ j, j ≠ id → j ≠ b → ((h.set 60 b .gone).set 60 id o2).get j = h.get j := fun j hj hj2 => by rw [Tr.get_set_other _ _ _ _ _ hj, Tr.get_set_other _ _ _ _ _ hj2]
  obtain ⟨q, hq, _⟩ := g.obj _ _ _ _ hs hb hm.live
  have hlt := g.lt hs hb hm.live
  refine ⟨⟨?_, ?_, ?_, ?_, ?_, ?_, below_wset g.below (g.own _ _ _ _ hs hb hm) _⟩, hle, ?_⟩
  · intro c c' l p hc hp hl
    by_cases e : c = id
    · subst e
      rw [Rho.put_same] at hc; cases hc
      rw [hsame] at hp; cases hp
      exact ⟨ob, wset_get hq, ho⟩
    · by_cases e2 : c = b
      · subst e2; rw [hgone] at hp; cases hp; exact hl.elim
      · rw [hoth c e e2] at hp
        rw [Rho.put_other _ _ e] at hc
        obtain ⟨p', h1, h2⟩ := g.obj _ _ _ _ hc hp hl
        refine ⟨p', ?_, h2.mono hle⟩
        rw [wset_other fun e' => e2 (by subst e'; exact g.inj _ _ _ _ _ _ _ hc hs hp hl hb hm.live)]
        exact h1
  · intro c x hc
    by_cases e : c = id
    · subst e; exact ⟨_, hsame⟩
    · by_cases e2 : c = b
      · subst e2; exact ⟨_, hgone⟩
      · rw [Rho.put_other _ _ e] at hc; rw [hoth c e e2]; exact g.dom c x hc
  · intro c d c' l l' p q' h1 h2 h3 h4 h5 h6
    have f : ∀ x y z r, x ≠ id → (σ.put id (b', some K)) x = some (z, r) → ((h.set 60 b .gone).set 60 id o2).get x = some y → y.live → x ≠ b ∧ σ x = some (z, r) ∧ h.get x = some y := fun x y z r hx h1 h2 h3 => by
      have hxb : x ≠ b := fun e => by subst e; rw [hgone] at h2; cases h2; exact h3.elim
      rw [hoth x hx hxb] at h2
      rw [Rho.put_other _ _ hx] at h1
      exact ⟨hxb, h1, h2⟩
    by_cases e : c = id <;> by_cases e' : d = id
    · rw [e, e']
    · exfalso
      subst e
      rw [Rho.put_same] at h1; cases h1
      obtain ⟨f1, f2, f3⟩ := f _ _ _ _ e' h2 h5 h6
      exact f1 (g.inj _ _ _ _ _ _ _ f2 hs f3 h6 hb hm.live)
    · exfalso
      subst e'
      rw [Rho.put_same] at h2; cases h2
      obtain ⟨f1, f2, f3⟩ := f _ _ _ _ e h1 h3 h4
      exact f1 (g.inj _ _ _ _ _ _ _ f2 hs f3 h4 hb hm.live)
    · obtain ⟨_, f2, f3⟩ := f _ _ _ _ e h1 h3 h4
      obtain ⟨_, f5, f6⟩ := f _ _ _ _ e' h2 h5 h6
      exact g.inj _ _ _ _ _ _ _ f2 f5 f3 h4 f6 h6
  · intro c c' l p hc hp hmp
    by_cases e : c = id
    · subst e; rw [Rho.put_same] at hc; cases hc; exact g.own _ _ _ _ hs hb hm
    · by_cases e2 : c = b
      · subst e2; rw [hgone] at hp; cases hp; exact hmp.elim
      · rw [Rho.put_other _ _ e] at hc; rw [hoth c e e2] at hp; exact g.own _ _ _ _ hc hp hmp
  · intro c p e' hp
    by_cases e : c = id
    · subst e; rw [hsame] at hp; cases hp; exact hm2.elim
    · by_cases e2 : c = b
      · subst e2; rw [hgone] at hp; cases hp
      · rw [hoth c e e2] at hp; exact hle _ _ (g.glob _ _ _ hp)
  · rw [wset_size]; exact g.base
  · intro c p hc hp
    have e : c ≠ id := fun e => by subst e; rw [hid] at hp; cases hp
    have e2 : c ≠ b := fun e => by subst e; rw [hs] at hc; cases hc
    rw [Rho.put_other _ _ e, hoth c e e2]
    exact ⟨hc, hp⟩
end
end Go.Proofs.YtjiekjfbllinbaaDoor.Rx
