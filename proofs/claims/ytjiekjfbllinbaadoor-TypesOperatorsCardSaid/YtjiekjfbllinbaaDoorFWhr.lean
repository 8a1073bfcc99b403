/- What Where answers of an error that is a kind, or a chain of Ats about one. -/
import Derived.Test.YtjiekjfbllinbaaDoorFKind
namespace Go.Proofs.YtjiekjfbllinbaaDoor
open Go.ChangeShapes Go.WideShapes Go.ChangeAt Go.RowKit Go.Extern.Stop Go.Stop Go.Extern
namespace Fk
set_option linter.unusedVariables false
set_option linter.unusedSimpArgs false

/-- The place that is told of such a chain: of the first that is not named. -/
def placeOf : List (Int × Int × Bool) → Int × Int
  | [] => (0, 0)
  | (line, col, nm) :: l => if nm then placeOf l else (line, col)

/-- How far Where is: n errors at most are still to be seen. -/
def WhereAt (W : World) (k : Option Int) (z : Int × Int) (b r mb cap q cw : Nat) (n : Nat) (w : World) : Prop :=
  ∃ (x : Value) (ats row left : Int), Below W.heap.size W w ∧ w.cell? ⟨cw, 0, none⟩ = some (.pointer (some ⟨b, 0, none⟩)) ∧ 0 ≤ ats ∧ ats + n ≤ 60 ∧ 100 + n ≤ left ∧ left ≤ 2147483647 ∧
    match n with
    | 0 => (Stopped w b ∨ WS w b r mb cap 0 x ats row left) ∧ Place w b r mb q z.1 z.2
    | n + 1 => WS w b r mb cap 1 x ats row left ∧ Place w b r mb q 0 0 ∧ x ≠ .nilIface ∧ ∃ l, l.length ≤ n ∧ Chain W k l x ∧ placeOf l = z

theorem where_going {W w0 : World} {k : Option Int} {z : Int × Int} {b r mb cap q cw : Nat} (gb : W.heap.size ≤ b) (gr : W.heap.size ≤ r) (gq : W.heap.size ≤ q) (gm : W.heap.size ≤ mb) (cb : cw ≠ b) (cr : cw ≠ r) (cq : cw ≠ q) :
    Going 33 (.pointer (some ⟨cw, 0, none⟩)) (.pointer (some ⟨q, 0, none⟩)) b (three b r q) w0 (fun n w' => Keeps (three b r q) w0 w' ∧ WhereAt W k z b r mb cap q cw n w') := by
  refine ⟨fun n w h => h.1, fun w h => ?_, fun n w h => ?_⟩
  · obtain ⟨_, x, ats, row, left, _, _, _, _, _, _, hs, _⟩ := h
    exact hs.imp id fun hs => ⟨r, mb, cap, x, ats, row, left, hs⟩
  · obtain ⟨hk0, x, ats, row, left, hbl, hcw, a0, a1, f0, f1, hs, hq, hx, l, hl, hc, hz⟩ := h
    have hcc := chain_cases hc
    rcases hcc with ⟨rfl, _⟩ | ⟨t, u, rfl⟩
    · exact absurd rfl hx
    · refine ⟨r, mb, cap, t, u, ats, row, left, hs, by omega, f1, fun w1 hs1 hk1 => ?_⟩
      have hk1' : Keeps (three b r q) w w1 := hk1.mono fun _ _ h => .inl h
      have hcw1 := hk1.cell hcw cb
      have hq1 := hq.keep hk1 hq.qb
      have n3 : ∀ j, j < W.heap.size → ¬ three b r q j := fun j h1 h2 => by rcases h2 with h2 | h2 | h2 <;> omega
      have nc : ¬ three b r q cw := fun h2 => by rcases h2 with h2 | h2 | h2 <;> omega
      have hb1 : Below W.heap.size W w1 := hbl.trans (hk1'.toBelow hbl.size n3)
      cases l with
      | nil =>
        cases k with
        | none => simp [Chain] at hc
        | some k0 =>
          simp only [Chain, Value.iface.injEq] at hc
          obtain ⟨rfl, rfl⟩ := hc
          refine (where_kind _ hs1 hq1 hcw1).mono ?_
          rintro e w2 ⟨rfl, hs2, hq2, hk2⟩
          subst hz
          exact ⟨rfl, 0, Nat.zero_le _, hk0.trans (hk1'.trans hk2), _, ats, 0, left - 1, hb1.trans (hk2.toBelow hb1.size n3), hk2.cell hcw1 nc, a0, by omega, by omega, by omega, .inr hs2, hq2⟩
      | cons p l =>
        obtain ⟨line, col, nm⟩ := p
        obtain ⟨pb, po, v, he, p0, p1, p3, p4, hcl⟩ := hc
        simp only [Value.iface.injEq] at he
        obtain ⟨rfl, rfl⟩ := he
        have lp := World.block_lt_of_cell? W _ p4
        simp only at lp
        have p0' : w1.cell? ⟨pb, po, none⟩ = _ := (hb1.cell (p := ⟨pb, po, none⟩) lp).trans p0
        have p1' : w1.cell? ⟨pb, po + 1, none⟩ = _ := (hb1.cell (p := ⟨pb, po + 1, none⟩) lp).trans p1
        have p3' : w1.cell? ⟨pb, po + 3, none⟩ = _ := (hb1.cell (p := ⟨pb, po + 3, none⟩) lp).trans p3
        have p4' : w1.cell? ⟨pb, po + 4, none⟩ = some v := (hb1.cell (p := ⟨pb, po + 4, none⟩) lp).trans p4
        simp only [List.length_cons] at hl
        cases nm with
        | false =>
          refine (where_here line col hs1 hq1 hcw1 cq p0' p1' p3').mono ?_
          rintro e w2 ⟨rfl, hs2, hq2, hk2⟩
          subst hz
          exact ⟨rfl, 0, Nat.zero_le _, hk0.trans (hk1'.trans hk2), .nilIface, ats, 0, left - 1, hb1.trans (hk2.toBelow hb1.size n3), hk2.cell hcw1 nc, a0, by omega, by omega, by omega, .inl hs2, hq2⟩
        | true =>
          have hz' : placeOf l = z := by simpa [placeOf] using hz
          rcases chain_cases hcl with ⟨rfl, hk, rfl⟩ | ⟨t', u', rfl⟩
          · refine (where_namedNil hs1 hq1 hcw1 cb cr p3' p4' a0 (by omega) (by omega)).mono ?_
            rintro e w2 ⟨rfl, hs2, hq2, hk2⟩
            subst hz'
            exact ⟨rfl, 0, Nat.zero_le _, hk0.trans (hk1'.trans hk2), _, ats + 1, 0, left - 1, hb1.trans (hk2.toBelow hb1.size n3), hk2.cell hcw1 nc, by omega, by omega, by omega, by omega, .inr hs2, hq2⟩
          · refine (where_named t' u' hs1 hq1 hcw1 cb cr p3' p4' a0 (by omega) (by omega)).mono ?_
            rintro e w2 ⟨rfl, hs2, hq2, hk2⟩
            obtain ⟨n', rfl⟩ : ∃ n', n = n' + 1 := ⟨n - 1, by omega⟩
            exact ⟨rfl, n' + 1, Nat.le_refl _, hk0.trans (hk1'.trans hk2), _, ats + 1, 0, left - 1, hb1.trans (hk2.toBelow hb1.size n3), hk2.cell hcw1 nc, by omega, by omega, by omega, by omega, hs2, hq2, by simp, l, by omega, hcl, hz'⟩

theorem WhereAt.keep {W : World} {k : Option Int} {z : Int × Int} {b r mb cap q cw n : Nat} {w w' : World} (h : WhereAt W k z b r mb cap q cw n w) (hk : Keeps (fun _ => False) w w') : WhereAt W k z b r mb cap q cw n w' := by
  obtain ⟨x, ats, row, left, hbl, hcw, a0, a1, f0, f1, r⟩ := h
  refine ⟨x, ats, row, left, hbl.trans (hk.toBelow hbl.size (fun _ _ => id)), hk.cell hcw id, a0, a1, f0, f1, ?_⟩
  cases n with
  | zero => exact ⟨r.1.imp (fun h => ⟨hk.cell h.c0 id⟩) (fun h => h.keep hk id id id), r.2.keep hk id⟩
  | succ n => exact ⟨r.1.keep hk id id id, r.2.1.keep hk id, r.2.2⟩

theorem where_each {W w1 : World} {k : Option Int} {l : List (Int × Int × Bool)} {t : TypeId} {u : Value} {b r mb cap : Nat} (hc : Chain W k l (.iface t u)) (hl : l.length ≤ 50) (hws : WS w1 b r mb cap 1 (.iface t u) 0 0 2147483647)
    (hb : Below (W.alloc (.cells #[.int .i64 0, .int .i64 0] 24)).heap.size (W.alloc (.cells #[.int .i64 0, .int .i64 0] 24)) w1) (g1 : (W.alloc (.cells #[.int .i64 0, .int .i64 0] 24)).heap.size ≤ b) (g2 : (W.alloc (.cells #[.int .i64 0, .int .i64 0] 24)).heap.size ≤ r) (g3 : (W.alloc (.cells #[.int .i64 0, .int .i64 0] 24)).heap.size ≤ mb) :
    Calls Tryd.prog 29 #[.pointer (some ⟨b, 0, none⟩), .func (Fn.func 33) #[] #[.pointer (some ⟨w1.heap.size, 0, none⟩), .pointer (some ⟨W.heap.size, 0, none⟩)]] (w1.alloc (.cells #[.pointer (some ⟨b, 0, none⟩)] 89)) fun e w' => e = .returned (.tuple #[]) ∧ w'.cell? ⟨W.heap.size, 0, none⟩ = some (.int .i64 (placeOf l).1) ∧ w'.cell? ⟨W.heap.size, 1, none⟩ = some (.int .i64 (placeOf l).2) ∧ w'.frozen? ⟨W.heap.size, 0, none⟩ = false ∧ w'.frozen? ⟨W.heap.size, 1, none⟩ = false ∧ Below W.heap.size W w' := by
  have lb := World.block_lt_of_cell? w1 _ hws.c0
  have lr := World.block_lt_of_cell? w1 _ hws.cr
  have hz := hb.size
  simp at g1 g2 g3 lb lr hz
  have hkA : Keeps (fun _ => False) w1 (w1.alloc (.cells #[.pointer (some ⟨b, 0, none⟩)] 89)) := (Keeps.refl _ _).alloc _
  have hq1 : w1.cell? ⟨W.heap.size, 0, none⟩ = some (.int .i64 0) := (hb.cell (p := ⟨W.heap.size, 0, none⟩) (by simp)).trans (by simp [go_sem])
  have hqf : w1.frozen? ⟨W.heap.size, 0, none⟩ = false := (hb.frozen (p := ⟨W.heap.size, 0, none⟩) (by simp)).trans (by simp [go_sem])
  have hq2 : w1.cell? ⟨W.heap.size, 1, none⟩ = some (.int .i64 0) := (hb.cell (p := ⟨W.heap.size, 1, none⟩) (by simp)).trans (by simp [go_sem])
  have hqg : w1.frozen? ⟨W.heap.size, 1, none⟩ = false := (hb.frozen (p := ⟨W.heap.size, 1, none⟩) (by simp)).trans (by simp [go_sem])
  have hbW : Below W.heap.size W w1 := ((Below.refl _ _).alloc (Nat.le_refl _) _).trans (hb.mono (by simp))
  refine (each_any 33 enterWhere (.pointer (some ⟨w1.heap.size, 0, none⟩)) (.pointer (some ⟨W.heap.size, 0, none⟩)) b (three b r W.heap.size) _ (WhereAt W k (placeOf l) b r mb cap W.heap.size w1.heap.size)
    (fun w0 _ => where_going (by omega) (by omega) (Nat.le_refl _) (by omega) (by omega) (by omega) (by omega)) (fun n w0 hk h => h.keep hk) (.inl rfl) (fun j hj => by rcases hj with rfl | rfl | rfl <;> simp <;> omega) (l.length + 1) ?_).mono ?_
  · refine ⟨.iface t u, 0, 0, 2147483647, hbW.alloc hbW.size _, by simp [go_sem], by omega, by omega, by omega, by omega, hws.keep hkA id id id, ?_, by simp, l, Nat.le_refl _, hc, rfl⟩
    exact (Place.mk hq1 hq2 hqf hqg (by omega) (by omega) (by omega)).keep hkA id
  · rintro e w2 ⟨rfl, hR, _⟩
    obtain ⟨x, ats, row, left, hbl, _, _, _, _, _, _, hq⟩ := hR
    exact ⟨rfl, hq.c0, hq.c1, hq.f0, hq.f1, hbl⟩

set_option maxRecDepth 100000 in
set_option maxHeartbeats 2000000 in
theorem Where_chain (k : Option Int) (l : List (Int × Int × Bool)) (t : TypeId) (u : Value) (W : World) (hc : Chain W k l (.iface t u)) (hl : l.length ≤ 50) :
    Calls Tryd.prog 12 #[.iface t u] W fun e w' => e = .returned (.agg #[.int .i64 (placeOf l).1, .int .i64 (placeOf l).2]) ∧ Below W.heap.size W w' := by
  have hmf : ∀ (fn : Fn) (first cap : Array Value) (w : World), (Instr.makeFunc fn first cap).run Tryd.prog w = .ok (.func fn first cap) w := fun _ _ _ _ => rfl
  have HC := Lib.hid hc
  clear hc
  go_enter Tryd.func12, Tryd.ntmps12
  go_wp2_with (first
    | (go_at_call 28; refine (begin_any t u _).mono ?_; rintro e w1 ⟨b, r, mb, cap, rfl, hws, hb, g1, g2, g3⟩)
    | (go_at_call 29; refine (where_each HC.out hl hws hb g1 g2 g3).mono ?_; rintro e w2 ⟨rfl, q0, q1, q2, q3, hb2⟩))
  refine bodyPost_ret (v := .agg #[.int .i64 (placeOf l).1, .int .i64 (placeOf l).2]) (by simp [results, Tryd.results12, go_sem, q0, q1, q2, q3]) rfl ⟨rfl, ?_⟩
  exact (hb2.setCell (Nat.le_refl _) _).setCell (Nat.le_refl _) _
end Fk
end Go.Proofs.YtjiekjfbllinbaaDoor
