/- What Kind and Where answer of an error that is a kind, or a chain of Ats about one. -/
import Derived.Test.YtjiekjfbllinbaaDoorFEach
import Derived.OwnWalk
namespace Go.Proofs.YtjiekjfbllinbaaDoor
open Go.ChangeShapes Go.WideShapes Go.ChangeAt Go.RowKit Go.Extern.Stop Go.Stop Go.Extern
namespace Fk
set_option linter.unusedVariables false
set_option linter.unusedSimpArgs false

theorem infoErr : (Tryd.prog.info? 37).map (fun i => (i.zero, i.size, i.bytes)) = some (some Value.nilIface, 1, 16) := by kernel_rfl

theorem row_one {w : World} {base : Nat} {e : TypeId} {v x : Value} (h : w.ownsRow base e 1 v 1 [x]) :
    ∃ g cap, v = .slice (some ⟨g, 0, none⟩) 1 cap ∧ base ≤ g ∧ 1 ≤ cap ∧ cap ≤ maxLen ∧ w.cell? ⟨g, 0, none⟩ = some x ∧ w.frozen? ⟨g, 0, none⟩ = false := by
  have hc := fun g hg => h.cells (g := g) hg 0 x rfl
  rcases h.2 with ⟨_, h0⟩ | ⟨g, cap, cur, rfl, hg, hh, h1, h2, _⟩
  · cases h0
  · exact ⟨g, cap, rfl, hg, h1, h2, hc g rfl, by simp [World.frozen?, hh]⟩
theorem Keeps.toBelow {S : Nat → Prop} {B : Nat} {w w' : World} (h : Keeps S w w') (hB : B ≤ w.heap.size) (hS : ∀ k, k < B → ¬ S k) : Below B w w' := ⟨h.os, h.tape, h.output, h.size, fun k hk => h.block k (Nat.lt_of_lt_of_le hk hB) (hS k hk)⟩
theorem grown_keeps {w w' : World} (h : w.grownBy w' none) : Keeps (fun _ => False) w w' := ⟨h.os, h.tape, h.output, h.size, fun k hk _ => h.block k hk (by simp)⟩

set_option maxRecDepth 100000 in
set_option maxHeartbeats 1000000 in
theorem add_first {w : World} {b mb : Nat} {ats row left : Int} (t : TypeId) (u : Value)
    (c0 : w.cell? ⟨b, 0, none⟩ = some (.slice none 0 0)) (c1 : w.cell? ⟨b, 1, none⟩ = some (.map (some mb))) (c2 : w.cell? ⟨b, 2, none⟩ = some (.int .i64 ats)) (c4 : w.cell? ⟨b, 4, none⟩ = some (.int .i64 row)) (c6 : w.cell? ⟨b, 6, none⟩ = some (.int .i64 left))
    (fb : ∀ o, w.frozen? ⟨b, o, none⟩ = false) (m : ∃ clock, w.heap[mb]? = some (.map #[] clock)) (bm : b ≠ mb) :
    Calls Tryd.prog 44 #[.pointer (some ⟨b, 0, none⟩), .iface t u] w fun e w' => e = .returned (.tuple #[]) ∧ ∃ r cap, WS w' b r mb cap 1 (.iface t u) ats row left ∧ w.heap.size ≤ r ∧ Keeps (fun k => k = b) w w' := by
  have lb := World.block_lt_of_cell? w _ c0
  simp only at lb
  obtain ⟨cl, hcl⟩ := m
  have lm : mb < w.heap.size := (Array.getElem?_eq_some_iff.1 hcl).1
  obtain ⟨i0, hi, hz0, hz1, hz2⟩ := info_parts infoErr
  have H1 := Lib.hid (And.intro c1 (And.intro c2 (And.intro c4 (And.intro c6 hcl))))
  clear c1 c2 c4 c6 hcl
  go_enter Tryd.func44, Tryd.ntmps44
  go_wp2_with (at_builtin; refine wpList_append_own _ rfl (.tmp 10) (.tmp 12) 107 rfl w.heap.size 37 i0 _ 1 16 Tryd.underlying107 hi hz0 hz1 hz2 rfl (by decide) _ _ _ rfl (World.ownsRow_nil _ _ _ _) ⟨w.heap.size, 0, none⟩ 1 1 [.iface t u] rfl rfl ?c1 ?c2 ?c3 ?c4 ?c5 ?_; rotate_left 5; intro v' w2 hown hgrow hnone; obtain ⟨g, cap, rfl, hgb, k1, k2, k3, k4⟩ := row_one (x := .iface t u) hown; have hK : Keeps (fun _ => False) w w2 := ((Keeps.refl _ _).alloc _).trans (grown_keeps hgrow); have d0 := hK.cell c0 id; have df := fun o => (World.frozen?_of_block (hK.block b lb id)).trans (fb o); clear hgrow hown hnone)
  · go_end0
    obtain ⟨e1, e2, e4, e6, em⟩ := H1.out
    have gb : b ≠ g := by omega
    have f1 := hK.cell e1 id
    have f2 := hK.cell e2 id
    have f4 := hK.cell e4 id
    have f6 := hK.cell e6 id
    refine ⟨rfl, g, cap, ⟨?_, ?_, ?_, ?_, ?_, fun o => ?_, ?_, ?_, ⟨cl, (Below.heap_setCell _ _ _ _ (by simp; omega)).trans ((hK.block mb lm id).trans em)⟩, k1, k2, gb, bm, by omega⟩, hgb, Keeps.setCell (S := fun k => k = b) (p := ⟨b, 0, none⟩) (hK.mono fun _ _ h => h.elim) rfl _⟩ <;> simp [go_sem, d0, df, f1, f2, f4, f6, k3, k4, gb, Ne.symm gb]
  · intro j x hj
    rcases j with _ | j
    · simp at hj
      subst hj
      simp [Addr.add, go_sem]
    · simp at hj
  · intro x hx
    simp at hx
    subst hx
    rfl
  · unfold maxLen; omega
  · omega
  · simp

/-- What is made before a walk: the error is laid first. -/
def BeginOut (x : Value) (W : World) (e : Ending) (w' : World) : Prop :=
  ∃ b r mb cap, e = .returned (.pointer (some ⟨b, 0, none⟩)) ∧ WS w' b r mb cap 1 x 0 0 2147483647 ∧ Below W.heap.size W w' ∧ W.heap.size ≤ b ∧ W.heap.size ≤ r ∧ W.heap.size ≤ mb

set_option maxRecDepth 100000 in
set_option maxHeartbeats 1000000 in
theorem begin_any (t : TypeId) (u : Value) (w : World) :
    Calls Tryd.prog 28 #[.iface t u] w (BeginOut (.iface t u) w) := by
  have hmm := @run_makeMap Tryd.prog
  go_enter Tryd.func28, Tryd.ntmps28
  go_wp2_with (go_at_call 44; refine (add_first (b := w.heap.size + 1) (mb := w.heap.size) (ats := 0) (row := 0) (left := 2147483647) t u (by simp [go_sem]) (by simp [go_sem]) (by simp [go_sem]) (by simp [go_sem]) (by simp [go_sem]) (fun o => by simp [go_sem]) ⟨0, by rw [Below.heap_alloc _ _ _ (by simp)]; exact heap_alloc_new _ _⟩ (by omega)).mono ?_; rintro e w1 ⟨rfl, r, cap, hws, hr, hk⟩)
  go_ret
  refine ⟨_, r, _, cap, rfl, hws, ?_, by omega, by simp at hr; omega, Nat.le_refl _⟩
  exact (((Below.refl _ _).alloc (Nat.le_refl _) _).alloc (by simp) _).trans (hk.toBelow (by simp; omega) (fun k h1 h2 => by omega))

/-- A chain of Ats about a kind, or about nothing: each with its place, and whether it is named. -/
def Chain (w : World) (k : Option Int) : List (Int × Int × Bool) → Value → Prop
  | [], v => v = match k with | some k => .iface 62 (.int .i64 k) | none => .nilIface
  | (line, col, nm) :: l, v => ∃ pb po u, v = .iface 94 (.pointer (some ⟨pb, po, none⟩)) ∧ w.cell? ⟨pb, po, none⟩ = some (.int .i64 line) ∧ w.cell? ⟨pb, po + 1, none⟩ = some (.int .i64 col) ∧ w.cell? ⟨pb, po + 3, none⟩ = some (.bool nm) ∧ w.cell? ⟨pb, po + 4, none⟩ = some u ∧ Chain w k l u
def kindOf : Option Int → Int
  | some k => told k
  | none => 12
theorem chain_cases {w : World} {k : Option Int} : ∀ {l : List (Int × Int × Bool)} {v : Value}, Chain w k l v → (v = .nilIface ∧ k = none ∧ l = []) ∨ ∃ t x, v = .iface t x
  | [], v, h => by
    cases k with
    | none => exact .inl ⟨h, rfl, rfl⟩
    | some k => exact .inr ⟨_, _, h⟩
  | (_, _, _) :: l, v, h => by
    obtain ⟨pb, po, u, rfl, _⟩ := h
    exact .inr ⟨_, _, rfl⟩

/-- The kind that is told of such a chain. -/
def kindV (k : Option Int) (l : List (Int × Int × Bool)) : Int := if k = none ∧ l = [] then 0 else kindOf k

/-- How far Kind is: n errors at most are still to be seen. -/
def KindAt (W : World) (k : Option Int) (b r mb cap q cw : Nat) (n : Nat) (w : World) : Prop :=
  ∃ (x : Value) (ats row left : Int), Below W.heap.size W w ∧ w.cell? ⟨cw, 0, none⟩ = some (.pointer (some ⟨b, 0, none⟩)) ∧ 0 ≤ ats ∧ ats + n ≤ 60 ∧ 100 + n ≤ left ∧ left ≤ 2147483647 ∧
    match n with
    | 0 => WS w b r mb cap 0 x ats row left ∧ Cell w b r mb q (.int .i64 (kindOf k))
    | n + 1 => WS w b r mb cap 1 x ats row left ∧ Cell w b r mb q (.int .i64 12) ∧ x ≠ .nilIface ∧ ∃ l, l.length ≤ n ∧ Chain W k l x

theorem kind_going {W w0 : World} {k : Option Int} {b r mb cap q cw : Nat} (gb : W.heap.size ≤ b) (gr : W.heap.size ≤ r) (gq : W.heap.size ≤ q) (gm : W.heap.size ≤ mb) (cb : cw ≠ b) (cr : cw ≠ r) (cq : cw ≠ q) :
    Going 30 (.pointer (some ⟨q, 0, none⟩)) (.pointer (some ⟨cw, 0, none⟩)) b (three b r q) w0 (fun n w' => Keeps (three b r q) w0 w' ∧ KindAt W k b r mb cap q cw n w') := by
  refine ⟨fun n w h => h.1, fun w h => ?_, fun n w h => ?_⟩
  · obtain ⟨_, x, ats, row, left, _, _, _, _, _, _, hs, _⟩ := h
    exact .inr ⟨r, mb, cap, x, ats, row, left, hs⟩
  · obtain ⟨hk0, x, ats, row, left, hbl, hcw, a0, a1, f0, f1, hs, hq, hx, l, hl, hc⟩ := h
    have hcc := chain_cases hc
    rcases hcc with ⟨rfl, _⟩ | ⟨t, u, rfl⟩
    · exact absurd rfl hx
    · refine ⟨r, mb, cap, t, u, ats, row, left, hs, by omega, f1, fun w1 hs1 hk1 => ?_⟩
      have hk1' : Keeps (three b r q) w w1 := hk1.mono fun _ _ h => .inl h
      have hcw1 := hk1.cell hcw cb
      have hq1 := hq.keep hk1 hq.qb
      have n3 : ∀ j, j < W.heap.size → ¬ three b r q j := fun j h1 h2 => by rcases h2 with h2 | h2 | h2 <;> omega
      have nc : ¬ three b r q cw := fun h2 => by rcases h2 with h2 | h2 | h2 <;> omega
      have hb1 : Below W.heap.size W w1 := hbl.trans (hk1'.toBelow hbl.size n3)
      cases l with
      | nil =>
        cases k with
        | none => simp [Chain] at hc
        | some k0 =>
          simp only [Chain, Value.iface.injEq] at hc
          obtain ⟨rfl, rfl⟩ := hc
          refine (kind_kind k0 hs1 hq1 hcw1 cq).mono ?_
          rintro e w2 ⟨rfl, hs2, hq2, hk2⟩
          exact ⟨rfl, 0, Nat.zero_le _, hk0.trans (hk1'.trans hk2), _, ats, 0, left - 1, hb1.trans (hk2.toBelow hb1.size n3), hk2.cell hcw1 nc, a0, by omega, by omega, by omega, hs2, hq2⟩
      | cons p l =>
        obtain ⟨line, col, nm⟩ := p
        obtain ⟨pb, po, v, he, p0, p1, p3, p4, hcl⟩ := hc
        simp only [Value.iface.injEq] at he
        obtain ⟨rfl, rfl⟩ := he
        have lp := World.block_lt_of_cell? W _ p4
        simp only at lp
        have p4' : w1.cell? ⟨pb, po + 4, none⟩ = some v := (hb1.cell (p := ⟨pb, po + 4, none⟩) lp).trans p4
        simp only [List.length_cons] at hl
        rcases chain_cases hcl with ⟨rfl, hk, _⟩ | ⟨t', u', rfl⟩
        · refine (kind_atNil hs1 hq1 hcw1 cq p4' a0 (by omega) (by omega) (by omega)).mono ?_
          rintro e w2 ⟨rfl, hs2, hq2, hk2⟩
          subst hk
          exact ⟨rfl, 0, Nat.zero_le _, hk0.trans (hk1'.trans hk2), _, ats + 1, 0, left - 1, hb1.trans (hk2.toBelow hb1.size n3), hk2.cell hcw1 nc, by omega, by omega, by omega, by omega, hs2, hq2⟩
        · refine (kind_at t' u' hs1 hq1 hcw1 cq p4' a0 (by omega) (by omega) (by omega)).mono ?_
          rintro e w2 ⟨rfl, hs2, hq2, hk2⟩
          obtain ⟨n', rfl⟩ : ∃ n', n = n' + 1 := ⟨n - 1, by omega⟩
          exact ⟨rfl, n' + 1, Nat.le_refl _, hk0.trans (hk1'.trans hk2), _, ats + 1, 0, left - 1, hb1.trans (hk2.toBelow hb1.size n3), hk2.cell hcw1 nc, by omega, by omega, by omega, by omega, hs2, hq2, by simp, l, by omega, hcl⟩

theorem KindAt.keep {W : World} {k : Option Int} {b r mb cap q cw n : Nat} {w w' : World} (h : KindAt W k b r mb cap q cw n w) (hk : Keeps (fun _ => False) w w') : KindAt W k b r mb cap q cw n w' := by
  obtain ⟨x, ats, row, left, hbl, hcw, a0, a1, f0, f1, r⟩ := h
  refine ⟨x, ats, row, left, hbl.trans (hk.toBelow hbl.size (fun _ _ => id)), hk.cell hcw id, a0, a1, f0, f1, ?_⟩
  cases n with
  | zero => exact ⟨r.1.keep hk id id id, r.2.keep hk id⟩
  | succ n => exact ⟨r.1.keep hk id id id, r.2.1.keep hk id, r.2.2⟩

theorem kind_each {W w1 : World} {k : Option Int} {l : List (Int × Int × Bool)} {t : TypeId} {u : Value} {b r mb cap : Nat} (hc : Chain W k l (.iface t u)) (hl : l.length ≤ 50) (hws : WS w1 b r mb cap 1 (.iface t u) 0 0 2147483647)
    (hb : Below (W.alloc (.cells #[.int .i64 12] 62)).heap.size (W.alloc (.cells #[.int .i64 12] 62)) w1) (g1 : (W.alloc (.cells #[.int .i64 12] 62)).heap.size ≤ b) (g2 : (W.alloc (.cells #[.int .i64 12] 62)).heap.size ≤ r) (g3 : (W.alloc (.cells #[.int .i64 12] 62)).heap.size ≤ mb) :
    Calls Tryd.prog 29 #[.pointer (some ⟨b, 0, none⟩), .func (Fn.func 30) #[] #[.pointer (some ⟨W.heap.size, 0, none⟩), .pointer (some ⟨w1.heap.size, 0, none⟩)]] (w1.alloc (.cells #[.pointer (some ⟨b, 0, none⟩)] 89)) fun e w' => e = .returned (.tuple #[]) ∧ w'.cell? ⟨W.heap.size, 0, none⟩ = some (.int .i64 (kindOf k)) ∧ Below W.heap.size W w' := by
  have lb := World.block_lt_of_cell? w1 _ hws.c0
  have lr := World.block_lt_of_cell? w1 _ hws.cr
  have hz := hb.size
  simp at g1 g2 g3 lb lr hz
  have hkA : Keeps (fun _ => False) w1 (w1.alloc (.cells #[.pointer (some ⟨b, 0, none⟩)] 89)) := (Keeps.refl _ _).alloc _
  have hq1 : w1.cell? ⟨W.heap.size, 0, none⟩ = some (.int .i64 12) := (hb.cell (p := ⟨W.heap.size, 0, none⟩) (by simp)).trans (by simp [go_sem])
  have hqf : w1.frozen? ⟨W.heap.size, 0, none⟩ = false := (hb.frozen (p := ⟨W.heap.size, 0, none⟩) (by simp)).trans (by simp [go_sem])
  have hbW : Below W.heap.size W w1 := ((Below.refl _ _).alloc (Nat.le_refl _) _).trans (hb.mono (by simp))
  refine (each_any 30 enterKind (.pointer (some ⟨W.heap.size, 0, none⟩)) (.pointer (some ⟨w1.heap.size, 0, none⟩)) b (three b r W.heap.size) _ (KindAt W k b r mb cap W.heap.size w1.heap.size)
    (fun w0 _ => kind_going (by omega) (by omega) (Nat.le_refl _) (by omega) (by omega) (by omega) (by omega)) (fun n w0 hk h => h.keep hk) (.inl rfl) (fun j hj => by rcases hj with rfl | rfl | rfl <;> simp <;> omega) (l.length + 1) ?_).mono ?_
  · refine ⟨.iface t u, 0, 0, 2147483647, hbW.alloc hbW.size _, by simp [go_sem], by omega, by omega, by omega, by omega, hws.keep hkA id id id, ?_, by simp, l, Nat.le_refl _, hc⟩
    exact (Cell.mk hq1 hqf (by omega) (by omega) (by omega)).keep hkA id
  · rintro e w2 ⟨rfl, hR, _⟩
    obtain ⟨x, ats, row, left, hbl, _, _, _, _, _, _, hq⟩ := hR
    exact ⟨rfl, hq.c, hbl⟩

set_option maxRecDepth 100000 in
set_option maxHeartbeats 2000000 in
theorem Kind_chain (k : Option Int) (l : List (Int × Int × Bool)) (v : Value) (W : World) (hc : Chain W k l v) (hl : l.length ≤ 50) :
    Calls Tryd.prog 11 #[v] W fun e w' => e = .returned (.int .i64 (kindV k l)) ∧ Below W.heap.size W w' := by
  have hmf : ∀ (fn : Fn) (first cap : Array Value) (w : World), (Instr.makeFunc fn first cap).run Tryd.prog w = .ok (.func fn first cap) w := fun _ _ _ _ => rfl
  have HC := Lib.hid hc
  clear hc
  rcases chain_cases HC.out with ⟨rfl, rfl, rfl⟩ | ⟨t, u, rfl⟩
  · go_enter Tryd.func11, Tryd.ntmps11
    go_wp2
    go_ret
    exact ⟨rfl, Below.refl _ _⟩
  · have hv : kindV k l = kindOf k := if_neg (by rintro ⟨rfl, rfl⟩; have := HC.out; simp [Chain] at this)
    rw [hv]
    clear hv
    go_enter Tryd.func11, Tryd.ntmps11
    go_wp2_with (first
      | (go_at_call 28; refine (begin_any t u _).mono ?_; rintro e w1 ⟨b, r, mb, cap, rfl, hws, hb, g1, g2, g3⟩)
      | (go_at_call 29; refine (kind_each HC.out hl hws hb g1 g2 g3).mono ?_; rintro e w2 ⟨rfl, q0, hb2⟩))
    go_ret
    exact ⟨rfl, hb2⟩
end Fk
end Go.Proofs.YtjiekjfbllinbaaDoor
