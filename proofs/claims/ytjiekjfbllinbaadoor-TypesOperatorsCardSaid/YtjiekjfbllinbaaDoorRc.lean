/- What the reader's memory says of the model's; loads, parts. -/
import Derived.Test.YtjiekjfbllinbaaDoorRb
import Derived.Laws.Cells
namespace Go.Proofs.YtjiekjfbllinbaaDoor.Rx
open Go
set_option linter.unusedSectionVars false
set_option linter.unusedVariables false
set_option linter.unusedSimpArgs false
variable [Opq]
variable {P : Program}

/-- Two lists of entries. -/
inductive ER (σ : Rho) : List (Value × Value) → List MapEntry → Prop
  | nil : ER σ [] []
  | cons {k v : Value} {e : MapEntry} {l : List (Value × Value)} {l' : List MapEntry} (hk : e.key = k) (hv : VR σ v e.val) (t : ER σ l l') : ER σ ((k, v) :: l) (e :: l')

theorem ER.mono {σ τ : Rho} (h : σ.le τ) {l : List (Value × Value)} {l' : List MapEntry} (hl : ER σ l l') : ER τ l l' := by
  induction hl with
  | nil => exact .nil
  | cons hk hv _ ih => exact .cons hk (hv.mono h) ih
theorem ER.length {σ : Rho} {l : List (Value × Value)} {l' : List MapEntry} (h : ER σ l l') : l.length = l'.length := by
  induction h with
  | nil => rfl
  | cons _ _ _ ih => simp [ih]

def ORel (P : Program) (σ : Rho) (k : Option Nat) : AObj → Obj → Prop
  | .cells c e g, o => ∃ c', o = .cells c' e (0, 0) ∧ LR σ c (c'.toList.take c.length) ∧ (k = none → g = false ∧ c'.size = c.length) ∧
      (∀ K, k = some K → g = true ∧ ∃ i, P.info? e = some i ∧ c'.size = K * i.size)
  | .glob c _, o => ∃ c' e' fr, o = .cells c' e' fr ∧ LR σ c (c'.toList.take c.length)
  | .map es, o => ∃ es' cl, o = .map es' cl ∧ ER σ es es'.toList
  | .gone, _ => True

theorem ORel.mono {σ τ : Rho} (h : σ.le τ) {k : Option Nat} {a : AObj} {o : Obj} (ho : ORel P σ k a o) : ORel P τ k a o := by
  cases a with
  | cells c e g => obtain ⟨c', h1, h2, h3⟩ := ho; exact ⟨c', h1, h2.mono h, h3⟩
  | glob c e => obtain ⟨c', e', fr, h1, h2⟩ := ho; exact ⟨c', e', fr, h1, h2.mono h⟩
  | map es => obtain ⟨es', cl, h1, h2⟩ := ho; exact ⟨es', cl, h1, h2.mono h⟩
  | gone => trivial

def AObj.live : AObj → Prop
  | .gone => False
  | _ => True
def AObj.mine : AObj → Prop
  | .cells .. | .map _ => True
  | _ => False
theorem AObj.mine.live {o : AObj} (h : o.mine) : o.live := by cases o <;> first | trivial | exact h.elim

/-- The reader's memory 'h' says what the model's 'w' holds; whatever lay below B when the run began (in W) is as it was. -/
structure G (P : Program) (B : Nat) (W : World) (σ : Rho) (h : Tr AObj) (w : World) : Prop where
  obj : ∀ b b' k o, σ b = some (b', k) → h.get b = some o → o.live → ∃ o', w.heap[b']? = some o' ∧ ORel P σ k o o'
  dom : ∀ b x, σ b = some x → ∃ o, h.get b = some o
  inj : ∀ b c b' k l o q, σ b = some (b', k) → σ c = some (b', l) → h.get b = some o → o.live → h.get c = some q → q.live → b = c
  own : ∀ b b' k o, σ b = some (b', k) → h.get b = some o → o.mine → B ≤ b'
  glob : ∀ b c e, h.get b = some (.glob c e) → σ b = some (b, none)
  base : B ≤ w.heap.size
  below : RowKit.Below B W w

theorem G.cells {B : Nat} {W w : World} {σ : Rho} {h : Tr AObj} (g : G P B W σ h w) {b b' : Nat} {k : Option Nat} {c : List Value} {e : TypeId} {gr : Bool}
    (hs : σ b = some (b', k)) (hb : h.get b = some (.cells c e gr)) : ∃ c', w.heap[b']? = some (.cells c' e (0, 0)) ∧ LR σ c (c'.toList.take c.length) ∧
      (k = none → gr = false ∧ c'.size = c.length) ∧ (∀ K, k = some K → gr = true ∧ ∃ i, P.info? e = some i ∧ c'.size = K * i.size) := by
  obtain ⟨o', h1, c', h2, h3⟩ := g.obj _ _ _ _ hs hb trivial
  subst h2; exact ⟨c', h1, h3⟩

/-- A row that can be read: its cells, at the beginning of the model's. -/
theorem G.row {B : Nat} {W w : World} {σ : Rho} {h : Tr AObj} (g : G P B W σ h w) {b b' : Nat} {k : Option Nat} {c : List Value}
    (hs : σ b = some (b', k)) (hb : (∃ e gr, h.get b = some (.cells c e gr)) ∨ ∃ e, h.get b = some (.glob c e)) :
    ∃ c' e fr, w.heap[b']? = some (.cells c' e fr) ∧ LR σ c (c'.toList.take c.length) := by
  rcases hb with ⟨e, gr, hb⟩ | ⟨e, hb⟩
  · obtain ⟨c', h1, h2, _⟩ := g.cells hs hb; exact ⟨c', e, _, h1, h2⟩
  · obtain ⟨o', h1, c', e', fr, h2, h3⟩ := g.obj _ _ _ _ hs hb trivial; subst h2; exact ⟨c', e', fr, h1, h3⟩

theorem run_sizeOf {t : TypeId} {n : Nat} (h : fsize P t = some n) (w : World) : (sizeOf t).run P w = .ok n w := by
  unfold fsize at h
  cases hi : P.info? t with
  | none => simp [hi] at h
  | some i => simp [hi] at h; simp [sizeOf, typeInfo, hi, h, Result.andThen]
theorem run_typeInfo {t : TypeId} {i : TypeInfo} (h : P.info? t = some i) (w : World) : (typeInfo t).run P w = .ok i w := by simp [typeInfo, h, Result.andThen]
theorem run_isAgg {t : TypeId} {b : Bool} (h : isAggP P t = some b) (w : World) : (isAgg t).run P w = .ok b w := by
  unfold isAggP at h
  cases hu : P.underlying t with
  | none => simp [hu] at h
  | some d => cases d <;> simp_all [isAgg, run_underlying hu, Result.andThen]
theorem zeroOf_eq {t : TypeId} {z : Value} (h : zeroOf P t = some z) : ∃ i, P.info? t = some i ∧ i.zero = some z ∧ flat 3 z = true := by
  unfold zeroOf at h
  cases hi : P.info? t with
  | none => simp [hi] at h
  | some i =>
    simp only [hi] at h
    cases hz : i.zero with
    | none => simp [hz] at h
    | some v =>
      simp only [hz] at h
      split at h
      · rename_i hf; cases h; exact ⟨i, rfl, hz, hf⟩
      · cases h
theorem run_zeroValue {t : TypeId} {z : Value} (h : zeroOf P t = some z) (w : World) : (zeroValue t).run P w = .ok z w := by
  obtain ⟨i, h1, h2, _⟩ := zeroOf_eq h
  simp [zeroValue, typeInfo, h1, h2, Result.andThen]

theorem cells_one {v : Value} (h : v.oneCell' = true) : v.cells.toList = [v] := by cases v <;> first | rfl | cases h
theorem VR.cells {σ : Rho} {v v' : Value} (h : VR σ v v') : LR σ v.cells.toList v'.cells.toList := by
  cases h with
  | agg h1 h2 => exact AR.toLR ⟨h1, h2⟩
  | flat0 v hf => cases v <;> first | exact .cons (.flat0 _ hf) .nil | (exfalso; revert hf; simp [Rx.flat0])
  | ptr e => exact .cons (.ptr e) .nil
  | slice e => exact .cons (.slice e) .nil
  | grow e a b => exact .cons (.grow e a b) .nil
  | map e => exact .cons (.map e) .nil
  | func a b c d e => exact .cons (.func a b c d e) .nil
  | iface e => exact .cons (.iface e) .nil
  | lost => exact .cons .lost .nil
  | opq e h1 => rw [cells_one h1]; exact .cons (.opq e h1) .nil
  | tuple a b => exact .cons (.tuple a b) .nil
theorem VR.cells_size {σ : Rho} {v v' : Value} (h : VR σ v v') : v'.cells.size = v.cells.size := by simpa using h.cells.length.symm

theorem LR.extract {σ : Rho} {a a' : Array Value} (h : AR σ a a') (i j : Nat) : AR σ (a.extract i j) (a'.extract i j) := by
  refine AR.of ?_
  simp only [Array.toList_extract, List.extract_eq_take_drop]
  exact (h.toLR.drop i).take _

theorem run_part {σ : Rho} {t : TypeId} {cs cs' : Array Value} {off : Nat} {v : Value} (h : partOf P t cs off = some v) (hc : AR σ cs cs') (w : World) :
    ∃ v', (part t cs' off).run P w = .ok v' w ∧ VR σ v v' := by
  unfold partOf at h
  cases ha : isAggP P t with
  | none => simp [ha] at h
  | some b =>
    cases b with
    | true =>
      simp only [ha] at h
      cases hn : fsize P t with
      | none => simp [hn] at h
      | some n =>
        simp only [hn, Option.some.injEq] at h
        subst h
        exact ⟨.agg (cs'.extract off (off + n)), by simp [part, run_isAgg ha, run_sizeOf hn, Result.andThen], .agg' (LR.extract hc _ _)⟩
    | false =>
      simp only [ha] at h
      obtain ⟨v', h1, h2⟩ := hc.some h
      exact ⟨v', by simp [part, run_isAgg ha, h1, Result.andThen], h2⟩

theorem cell_add (b off j : Nat) : (⟨b, off, none⟩ : Addr).add j = ⟨b, off + j, none⟩ := by unfold Addr.add; split <;> simp_all

/-- Loading cells of a row. -/
theorem run_loadRow {σ : Rho} {w : World} {b' : Nat} {c : List Value} {c' : Array Value} {e : TypeId} {fr : Nat × Nat} (hw : w.heap[b']? = some (.cells c' e fr))
    (hl : LR σ c (c'.toList.take c.length)) (off n : Nat) (hn : off + n ≤ c.length) :
    ∃ l, (loadCells ⟨b', off, none⟩ n).run P w = .ok l.toArray w ∧ LR σ ((c.drop off).take n) l := by
  refine ⟨((c'.toList.take c.length).drop off).take n, ?_, (hl.drop off).take n⟩
  have hlen : ((c'.toList.take c.length).drop off |>.take n).length = n := by
    have := hl.length
    simp only [List.length_take, List.length_drop, Array.length_toList] at *
    omega
  have := run_loadCells_list (P := P) w ⟨b', off, none⟩ (((c'.toList.take c.length).drop off).take n) (fun j v hv => by
    rw [cell_add, cell_of_row w b' (off + j) c' e fr hw]
    rw [List.getElem?_take] at hv
    split at hv
    · rw [List.getElem?_drop, List.getElem?_take] at hv
      split at hv
      · simpa using hv
      · cases hv
    · cases hv)
  rwa [hlen] at this

theorem run_loadRow2 {σ : Rho} {b' : Nat} {c : List Value} {c' : Array Value} {e : TypeId} {fr : Nat × Nat} 
    (hl : LR σ c (c'.toList.take c.length)) (off n : Nat) (hn : off + n ≤ c.length) :
    ∃ l, (∀ w : World, w.heap[b']? = some (.cells c' e fr) → (loadCells ⟨b', off, none⟩ n).run P w = .ok l.toArray w) ∧ LR σ ((c.drop off).take n) l := by
  refine ⟨((c'.toList.take c.length).drop off).take n, fun w hw => ?_, (hl.drop off).take n⟩
  have hlen : ((c'.toList.take c.length).drop off |>.take n).length = n := by
    have := hl.length
    simp only [List.length_take, List.length_drop, Array.length_toList] at *
    omega
  have := run_loadCells_list (P := P) w ⟨b', off, none⟩ (((c'.toList.take c.length).drop off).take n) (fun j v hv => by
    rw [cell_add, cell_of_row w b' (off + j) c' e fr hw]
    rw [List.getElem?_take] at hv
    split at hv
    · rw [List.getElem?_drop, List.getElem?_take] at hv
      split at hv
      · simpa using hv
      · cases hv
    · cases hv)
  rwa [hlen] at this

theorem run_readAt {σ : Rho} {w : World} {b' : Nat} {c : List Value} {c' : Array Value} {e : TypeId} {fr : Nat × Nat} (hw : w.heap[b']? = some (.cells c' e fr))
    (hl : LR σ c (c'.toList.take c.length)) {off : Nat} {t : TypeId} {v : Value} (h : readAt P c off t = some v) :
    ∃ v', (loadVar t ⟨b', off, none⟩).run P w = .ok v' w ∧ VR σ v v' := by
  unfold readAt at h
  cases ha : isAggP P t with
  | none => simp [ha] at h
  | some b =>
    cases b with
    | true =>
      simp only [ha] at h
      cases hn : fsize P t with
      | none => simp [hn] at h
      | some n =>
        simp only [hn] at h
        split at h
        · rename_i hd
          simp only [Option.some.injEq] at h
          subst h
          obtain ⟨l, h1, h2⟩ := run_loadRow (P := P) hw hl off n (of_decide_eq_true hd)
          exact ⟨.agg l.toArray, by simp [loadVar, run_isAgg ha, run_sizeOf hn, h1, Result.andThen], .agg' (AR.of (by simpa using h2))⟩
        · cases h
    | false =>
      simp only [ha] at h
      obtain ⟨v', h1, h2⟩ := hl.some h
      have hc : c'[off]? = some v' := by
        rw [List.getElem?_take] at h1
        split at h1
        · simpa using h1
        · cases h1
      exact ⟨v', by simp [loadVar, run_isAgg ha, cell_of_row w b' off c' e fr hw, hc, Result.andThen], h2⟩
end Go.Proofs.YtjiekjfbllinbaaDoor.Rx
