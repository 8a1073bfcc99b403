/- The reference's first fault of types: what it comes to. -/
import Derived.Test.YtecfknbhnhcioaaGreatDoorNw
import Derived.Deep.AppendLies
namespace Go.Proofs.YtecfknbhnhcioaaGreatDoor
open Go.ChangeShapes Go.WideShapes Go.ChangeAt Go.RowKit Go.Maps
namespace Tx
set_option linter.unusedVariables false
set_option linter.unusedSimpArgs false
theorem hasN_snoc (l : List ByteArray) (x s : ByteArray) : hasN (l ++ [x]) s = (hasN l s || decide (x = s)) := by
  unfold hasN
  rw [List.any_append]
  simp
theorem dupC_snoc : ∀ (l : List ByteArray) (C : List ByteArray) (c : ByteArray), dupC C (l ++ [c]) = (dupC C l || hasN (C ++ l) c)
  | [], C, c => by simp [dupC]
  | x :: r, C, c => by
    show (hasN C x || dupC (C ++ [x]) (r ++ [c])) = ((hasN C x || dupC (C ++ [x]) r) || hasN (C ++ x :: r) c)
    rw [dupC_snoc r (C ++ [x]) c, Bool.or_assoc, List.append_assoc]
    rfl
/-- The first fault stays. -/
def step (o : Option (Int × Int)) (p : Int × Int) (bad : Bool) : Option (Int × Int) :=
  match o with
  | some x => some x
  | none => if bad = true then some p else none
theorem step_step (o : Option (Int × Int)) (p : Int × Int) (a b : Bool) : step (step o p a) p b = step o p (a || b) := by
  cases o <;> cases a <;> cases b <;> rfl
theorem firstBad_snoc : ∀ (l : List En) (T C : List ByteArray) (t : En), (firstBad (l ++ [t]) T C).map (fun t => (t.line, t.col)) = step ((firstBad l T C).map fun t => (t.line, t.col)) (t.line, t.col) (badE (T ++ l.map En.nm) (C ++ l.flatMap En.cs) t)
  | [], T, C, t => by
    show ((if badE T C t = true then some t else firstBad [] (T ++ [t.nm]) (C ++ t.cs)).map fun t => (t.line, t.col)) = _
    simp only [List.map_nil, List.append_nil, List.flatMap_nil]
    by_cases h : badE T C t = true
    · rw [if_pos h, h]; rfl
    · rw [if_neg h, Bool.eq_false_iff.2 h]; rfl
  | x :: r, T, C, t => by
    show ((if badE T C x = true then some x else firstBad (r ++ [t]) (T ++ [x.nm]) (C ++ x.cs)).map fun t => (t.line, t.col)) = step ((if badE T C x = true then some x else firstBad r (T ++ [x.nm]) (C ++ x.cs)).map fun t => (t.line, t.col)) _ _
    by_cases h : badE T C x = true
    · rw [if_pos h, if_pos h]; rfl
    · rw [if_neg h, if_neg h, firstBad_snoc r (T ++ [x.nm]) (C ++ x.cs) t, List.append_assoc, List.append_assoc]
      rfl
def lk (o : Option (Int × Int)) : Int := if o.isSome = true then 4 else 0
def ll (o : Option (Int × Int)) : Int := (o.getD (0, 0)).1
def lc' (o : Option (Int × Int)) : Int := (o.getD (0, 0)).2
/-- A fault is told to the look. -/
theorem fail_any (lb : Nat) (o : Option (Int × Int)) (p : Int × Int) (w : World) (h : LookAt lb (lk o) (ll o) (lc' o) w) :
    Calls Tryz.prog 28 #[.pointer (some ⟨lb, 0, none⟩), .int .i64 4, .agg #[.int .i64 p.1, .int .i64 p.2]] w fun e w' => e = .returned (.tuple #[]) ∧ LookAt lb (lk (step o p true)) (ll (step o p true)) (lc' (step o p true)) w' ∧ Keeps (fun k => k = lb) w w' := by
  cases o with
  | none => exact fail_first lb 4 _ _ p.1 p.2 w h
  | some x => exact fail_later lb 4 4 _ _ p.1 p.2 rfl w h
theorem names_of_own {w' : World} {base : Nat} {t : TypeId} {v' : Value} {ns : List ByteArray} (h : w'.ownsRow base t 1 v' ns.length (ns.map Value.string)) (hs : ∀ s ∈ ns, s.size ≤ maxLen) : NamesIn (fun k => k < w'.heap.size) w' v' ns := by
  rcases h.2 with ⟨hv, h0⟩ | ⟨g, cap, cur, hv, h1, h2, h3, h4, h5, h6⟩
  · exact .inl ⟨⟨none, 0, hv⟩, List.length_eq_zero_iff.1 h0⟩
  · refine .inr ⟨g, 0, cap, hv, h3, h4, (Array.getElem?_eq_some_iff.1 h2).1, fun i s hi => ⟨hs s (List.mem_of_getElem? hi), ?_⟩⟩
    have hc := h.cells (g := g) (by rw [hv]; rfl) i (.string s) (by rw [List.getElem?_map, hi]; rfl)
    have hadd : (⟨g, 0, none⟩ : Addr).add i = ⟨g, i, none⟩ := by unfold Addr.add; split <;> simp_all
    rw [hadd] at hc
    rw [Nat.zero_add]
    exact hc
theorem NamesIn.small {B : Nat → Prop} {w : World} {v : Value} {ns : List ByteArray} (h : NamesIn B w v ns) : ∀ s ∈ ns, s.size ≤ maxLen := by
  intro s hs
  rcases h with ⟨_, rfl⟩ | ⟨b, o, cap, e, h1, h2, h3, h4⟩
  · cases hs
  · obtain ⟨i, hi, rfl⟩ := List.mem_iff_getElem.1 hs
    exact (h4 i _ (List.getElem?_eq_getElem hi)).1
theorem own_keep {S : Nat → Prop} {w w' : World} {base : Nat} {t : TypeId} {sz n : Nat} {v : Value} {xs : List Value} (h : w.ownsRow base t sz v n xs) (hk : Keeps S w w') (hS : ∀ g, v.ownBlock = some g → ¬ S g) : w'.ownsRow base t sz v n xs := by
  refine ⟨h.1, ?_⟩
  rcases h.2 with hv | ⟨g, cap, cur, hv, h1, h2, h3⟩
  · exact .inl hv
  · exact .inr ⟨g, cap, cur, hv, h1, (hk.block g (Array.getElem?_eq_some_iff.1 h2).1 (hS g (by rw [hv]; rfl))).trans h2, h3⟩
/-- The look's loops: what lies where. -/
structure RefAt (W : World) (qb lb : Nat) (ev : Value) (o : Option (Int × Int)) (cv : Value) (C : List ByteArray) (w : World) : Prop where
  below : Below W.heap.size W w
  q : w.cell? ⟨qb, 0, none⟩ = some ev
  q1 : w.cell? ⟨qb, 1, none⟩ = some (.slice none 0 0)
  rz : w.heap[qb + 1]? = some (.cells #[.int .i64 0, .int .i64 0] 30 (0, 0))
  look : LookAt lb (lk o) (ll o) (lc' o) w
  own : w.ownsRow (lb + 1) 9 1 cv C.length (C.map Value.string)
  wq : W.heap.size ≤ qb
  ql : qb + 1 < lb
theorem RefAt.fail {W w w' : World} {qb lb : Nat} {ev cv : Value} {o o' : Option (Int × Int)} {C : List ByteArray} (h : RefAt W qb lb ev o cv C w) (hl : LookAt lb (lk o') (ll o') (lc' o') w') (hk : Keeps (fun k => k = lb) w w') : RefAt W qb lb ev o' cv C w' := by
  have hz := h.below.size
  have hw := h.wq
  have hq := h.ql
  refine ⟨⟨hk.os.trans h.below.os, hk.tape.trans h.below.tape, hk.output.trans h.below.output, Nat.le_trans hz hk.size, fun k hlt => ?_⟩, hk.cell h.q (by omega), hk.cell h.q1 (by omega), (hk.block (qb + 1) (Array.getElem?_eq_some_iff.1 h.rz).1 (by omega)).trans h.rz, hl, own_keep h.own hk (fun g hg e => by have := (h.own.lt g hg).1; omega), hw, hq⟩
  rw [hk.block k (by omega) (by omega), h.below.block k hlt]
theorem RefAt.keep0 {W w w' : World} {qb lb : Nat} {ev cv : Value} {o : Option (Int × Int)} {C : List ByteArray} (h : RefAt W qb lb ev o cv C w) (hb : Below w.heap.size w w') : RefAt W qb lb ev o cv C w' :=
  have k : Keeps (fun _ => False) w w' := Keeps.below hb
  ⟨h.below.trans (hb.mono h.below.size), k.cell h.q id, k.cell h.q1 id, (k.block (qb + 1) (Array.getElem?_eq_some_iff.1 h.rz).1 id).trans h.rz, h.look.keep k id, own_keep h.own k (fun _ _ => id), h.wq, h.ql⟩
theorem RefAt.push {W w w' : World} {qb lb g cap : Nat} {ev cv : Value} {o : Option (Int × Int)} {C : List ByteArray} {s : ByteArray} {ob : Obj} (h : RefAt W qb lb ev o cv C w) (hown : w'.ownsRow (lb + 1) 9 1 (.slice (some ⟨g, 0, none⟩) (C.length + 1) cap) (C.length + 1) (C.map Value.string ++ [.string s])) (hgrow : (w.alloc ob).grownBy w' cv.ownBlock) : RefAt W qb lb ev o (.slice (some ⟨g, 0, none⟩) (C.length + 1) cap) (C ++ [s]) w' := by
  have k2 : Keeps (fun k => cv.ownBlock = some k) w w' := ((Keeps.refl _ w).alloc ob).trans (Keeps.grownB hgrow)
  have hz := h.below.size
  have hw := h.wq
  have hq := h.ql
  have hge : ∀ k, k ≤ lb → ¬ cv.ownBlock = some k := fun k hk e => by have := (h.own.lt k e).1; omega
  refine ⟨⟨k2.os.trans h.below.os, k2.tape.trans h.below.tape, k2.output.trans h.below.output, Nat.le_trans hz k2.size, fun k hlt => ?_⟩, k2.cell h.q (hge _ (by omega)), k2.cell h.q1 (hge _ (by omega)), (k2.block (qb + 1) (Array.getElem?_eq_some_iff.1 h.rz).1 (hge _ (by omega))).trans h.rz, h.look.keep k2 (hge _ (Nat.le_refl _)), by simpa using hown, hw, hq⟩
  rw [k2.block k (by omega) (hge k (by omega)), h.below.block k hlt]
end Tx
end Go.Proofs.YtecfknbhnhcioaaGreatDoor
