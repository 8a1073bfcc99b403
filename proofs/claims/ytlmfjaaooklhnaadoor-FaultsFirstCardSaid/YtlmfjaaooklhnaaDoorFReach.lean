/- A kind wraps nothing: no At is reached from it. -/
import Derived.Test.YtlmfjaaooklhnaaDoorFText
namespace Go.Proofs.YtlmfjaaooklhnaaDoor
open Go.ChangeShapes Go.WideShapes Go.ChangeAt Go.RowKit Go.Extern.Stop Go.Stop Go.Extern
namespace Fk
set_option linter.unusedVariables false
set_option linter.unusedSimpArgs false

theorem enterReach (args : Array Value) (w : World) : (callFunc 74 args).run Tryd.prog w = .ok (.enter 74 args) w := by kernel_rfl
theorem equal_kind (k : Value) (p : Option Addr) (w : World) :
    Calls Tryd.prog 21 #[.iface 26 k, .pointer p] w fun e w' => e = .returned (.bool false) ∧ w = w' := by
  go_enter Tryd.func21, Tryd.ntmps21
  go_wp2_with (go_at_call 33; refine (itself_kind _ _).mono ?_; rintro e w' ⟨rfl, rfl⟩)
  go_ret
  exact ⟨rfl, rfl⟩

set_option maxRecDepth 100000 in
set_option maxHeartbeats 1000000 in
theorem reach_kind {w : World} {b r mb cap q cw ca : Nat} {x : Value} {ats row left : Int} (k : Value) (p : Option Addr) (h : WS w b r mb cap 0 x ats row left) (hq : Cell w b r mb q (.bool false)) (hw : w.cell? ⟨cw, 0, none⟩ = some (.pointer (some ⟨b, 0, none⟩))) (ha : w.cell? ⟨ca, 0, none⟩ = some (.pointer p)) (hcq : cw ≠ q) :
    Calls Tryd.prog 74 #[.iface 26 k, .pointer (some ⟨ca, 0, none⟩), .pointer (some ⟨q, 0, none⟩), .pointer (some ⟨cw, 0, none⟩)] w fun e w' => e = .returned (.tuple #[]) ∧ WS w' b r mb cap 0 x ats 0 left ∧ Cell w' b r mb q (.bool false) ∧ Keeps (three b r q) w w' := by
  have q0 := hq.c
  have q1 := hq.f
  have lq := World.block_lt_of_cell? w _ hq.c
  simp only at lq
  have hK := ((Keeps.refl (fun k => k = q) w).setCell (p := ⟨q, 0, none⟩) rfl (.bool false))
  have HS2 := Lib.hid (h.keep (S := fun k => k = q) hK (Ne.symm hq.qb) (Ne.symm hq.qr) (Ne.symm hq.qm))
  have HQ := Lib.hid hq
  clear h hq hK
  go_enter Tryd.func74, Tryd.ntmps74
  go_wp2_with (first
    | (go_at_call 21; refine (equal_kind _ _ _).mono ?_; rintro e w' ⟨rfl, rfl⟩)
    | (go_at_call 17; refine (enter_kind _ HS2.out).mono ?_; rintro e w2 ⟨rfl, hws, hk⟩))
  go_end0
  exact ⟨rfl, hws, (HQ.out.set _).keep hk (not_two HQ.out.qb HQ.out.qr), ((Keeps.refl _ _).setCell (.inr (.inr rfl)) _).trans (two_three hk)⟩

/-- How far reaches is. -/
def ReachAt (W : World) (k : Value) (b r mb cap q cw ca : Nat) (p : Option Addr) (n : Nat) (w : World) : Prop :=
  ∃ (x : Value) (ats row left : Int), Below W.heap.size W w ∧ w.cell? ⟨cw, 0, none⟩ = some (.pointer (some ⟨b, 0, none⟩)) ∧ w.cell? ⟨ca, 0, none⟩ = some (.pointer p) ∧ 100 + n ≤ left ∧ left ≤ 2147483647 ∧ Cell w b r mb q (.bool false) ∧
    match n with
    | 0 => WS w b r mb cap 0 x ats row left
    | n + 1 => n = 0 ∧ WS w b r mb cap 1 x ats row left ∧ x = .iface 26 k
theorem ReachAt.keep {W : World} {k : Value} {b r mb cap q cw ca n : Nat} {p : Option Addr} {w w' : World} (h : ReachAt W k b r mb cap q cw ca p n w) (hk : Keeps (fun _ => False) w w') : ReachAt W k b r mb cap q cw ca p n w' := by
  obtain ⟨x, ats, row, left, hbl, hcw, hca, f0, f1, hq, r⟩ := h
  refine ⟨x, ats, row, left, hbl.trans (hk.toBelow hbl.size (fun _ _ => id)), hk.cell hcw id, hk.cell hca id, f0, f1, hq.keep hk id, ?_⟩
  cases n with
  | zero => exact r.keep hk id id id
  | succ n => exact ⟨r.1, r.2.1.keep hk id id id, r.2.2⟩
theorem reach_going {W w0 : World} {k : Value} {b r mb cap q cw ca : Nat} {p : Option Addr} (gb : W.heap.size ≤ b) (gr : W.heap.size ≤ r) (gq : W.heap.size ≤ q) (gm : W.heap.size ≤ mb) (cb : cw ≠ b) (cr : cw ≠ r) (cq : cw ≠ q) (ab : ca ≠ b) (ar : ca ≠ r) (aq : ca ≠ q) :
    Going3 74 (.pointer (some ⟨ca, 0, none⟩)) (.pointer (some ⟨q, 0, none⟩)) (.pointer (some ⟨cw, 0, none⟩)) b (three b r q) w0 (fun n w' => Keeps (three b r q) w0 w' ∧ ReachAt W k b r mb cap q cw ca p n w') := by
  refine ⟨fun n w h => h.1, fun w h => ?_, fun n w h => ?_⟩
  · obtain ⟨_, x, ats, row, left, _, _, _, _, _, _, hs⟩ := h
    exact .inr ⟨r, mb, cap, x, ats, row, left, hs⟩
  · obtain ⟨hk0, x, ats, row, left, hbl, hcw, hca, f0, f1, hq, rfl, hs, rfl⟩ := h
    refine ⟨r, mb, cap, _, _, ats, row, left, hs, by omega, f1, fun w1 hs1 hk1 => ?_⟩
    have hk1' : Keeps (three b r q) w w1 := hk1.mono fun _ _ h => .inl h
    have hcw1 := hk1.cell hcw cb
    have hca1 := hk1.cell hca ab
    have hq1 := hq.keep hk1 hq.qb
    have n3 : ∀ j, j < W.heap.size → ¬ three b r q j := fun j h1 h2 => by rcases h2 with h2 | h2 | h2 <;> omega
    have nc : ¬ three b r q cw := fun h2 => by rcases h2 with h2 | h2 | h2 <;> omega
    have na : ¬ three b r q ca := fun h2 => by rcases h2 with h2 | h2 | h2 <;> omega
    have hb1 : Below W.heap.size W w1 := hbl.trans (hk1'.toBelow hbl.size n3)
    refine (reach_kind k p hs1 hq1 hcw1 hca1 cq).mono ?_
    rintro e w2 ⟨rfl, hs2, hq2, hk2⟩
    exact ⟨rfl, 0, Nat.zero_le _, hk0.trans (hk1'.trans hk2), _, ats, 0, left - 1, hb1.trans (hk2.toBelow hb1.size n3), hk2.cell hcw1 nc, hk2.cell hca1 na, by omega, by omega, hq2, hs2⟩

theorem reach_each {W w1 : World} {k : Value} {a : Addr} {b r mb cap : Nat} (hws : WS w1 b r mb cap 1 (.iface 26 k) 0 0 2147483647)
    (hb : Below ((W.alloc (.cells #[.pointer (some a)] 39)).alloc (.cells #[.bool false] 4)).heap.size ((W.alloc (.cells #[.pointer (some a)] 39)).alloc (.cells #[.bool false] 4)) w1) (g1 : ((W.alloc (.cells #[.pointer (some a)] 39)).alloc (.cells #[.bool false] 4)).heap.size ≤ b) (g2 : ((W.alloc (.cells #[.pointer (some a)] 39)).alloc (.cells #[.bool false] 4)).heap.size ≤ r) (g3 : ((W.alloc (.cells #[.pointer (some a)] 39)).alloc (.cells #[.bool false] 4)).heap.size ≤ mb) :
    Calls Tryd.prog 14 #[.pointer (some ⟨b, 0, none⟩), .func (Fn.func 74) #[] #[.pointer (some ⟨W.heap.size, 0, none⟩), .pointer (some ⟨W.heap.size + 1, 0, none⟩), .pointer (some ⟨w1.heap.size, 0, none⟩)]] (w1.alloc (.cells #[.pointer (some ⟨b, 0, none⟩)] 43)) fun e w' => e = .returned (.tuple #[]) ∧ w'.cell? ⟨W.heap.size + 1, 0, none⟩ = some (.bool false) ∧ w'.frozen? ⟨W.heap.size + 1, 0, none⟩ = false ∧ Below W.heap.size W w' := by
  have lb := World.block_lt_of_cell? w1 _ hws.c0
  have lr := World.block_lt_of_cell? w1 _ hws.cr
  have hz := hb.size
  simp at g1 g2 g3 lb lr hz
  have hkA : Keeps (fun _ => False) w1 (w1.alloc (.cells #[.pointer (some ⟨b, 0, none⟩)] 43)) := (Keeps.refl _ _).alloc _
  have ha1 : w1.cell? ⟨W.heap.size, 0, none⟩ = some (.pointer (some a)) := (hb.cell (p := ⟨W.heap.size, 0, none⟩) (by simp; omega)).trans (by simp [go_sem])
  have hq1 : w1.cell? ⟨W.heap.size + 1, 0, none⟩ = some (.bool false) := (hb.cell (p := ⟨W.heap.size + 1, 0, none⟩) (by simp)).trans (by simp [go_sem])
  have hqf : w1.frozen? ⟨W.heap.size + 1, 0, none⟩ = false := (hb.frozen (p := ⟨W.heap.size + 1, 0, none⟩) (by simp)).trans (by simp [go_sem])
  have hbW : Below W.heap.size W w1 := (((Below.refl _ _).alloc (Nat.le_refl _) _).alloc (by simp) _).trans (hb.mono (by simp; omega))
  refine (each_any3 74 enterReach (.pointer (some ⟨W.heap.size, 0, none⟩)) (.pointer (some ⟨W.heap.size + 1, 0, none⟩)) (.pointer (some ⟨w1.heap.size, 0, none⟩)) b (three b r (W.heap.size + 1)) _ (ReachAt W k b r mb cap (W.heap.size + 1) w1.heap.size W.heap.size (some a))
    (fun w0 _ => reach_going (by omega) (by omega) (by omega) (by omega) (by omega) (by omega) (by omega) (by omega) (by omega) (by omega)) (fun n w0 hk h => h.keep hk) (.inl rfl) (fun j hj => by rcases hj with rfl | rfl | rfl <;> simp <;> omega) 1 ?_).mono ?_
  · exact ⟨.iface 26 k, 0, 0, 2147483647, hbW.alloc hbW.size _, by simp [go_sem], hkA.cell ha1 id, by omega, by omega, (Cell.mk hq1 hqf (by omega) (by omega) (by omega)).keep hkA id, rfl, hws.keep hkA id id id, rfl⟩
  · rintro e w2 ⟨rfl, hR, _⟩
    obtain ⟨x, ats, row, left, hbl, _, _, _, _, hq, _⟩ := hR
    exact ⟨rfl, hq.c, hq.f, hbl⟩

set_option maxRecDepth 100000 in
set_option maxHeartbeats 2000000 in
theorem reaches_kind (k : Value) (a : Addr) (W : World) :
    Calls Tryd.prog 70 #[.iface 26 k, .pointer (some a)] W fun e w' => e = .returned (.bool false) ∧ Below W.heap.size W w' := by
  have hmf : ∀ (fn : Fn) (first cap : Array Value) (w : World), (Instr.makeFunc fn first cap).run Tryd.prog w = .ok (.func fn first cap) w := fun _ _ _ _ => rfl
  go_enter Tryd.func70, Tryd.ntmps70
  go_wp2_with (first
    | (go_at_call 13; refine (begin_any _ _ _).mono ?_; rintro e w1 ⟨b, r, mb, cap, rfl, hws, hb, g1, g2, g3⟩)
    | (go_at_call 14; refine (reach_each hws hb g1 g2 g3).mono ?_; rintro e w2 ⟨rfl, q0, q1, hb2⟩))
  refine bodyPost_ret (v := .bool false) (by simp [results, Tryd.results70, go_sem, q0, q1]) rfl ⟨rfl, ?_⟩
  exact hb2.setCell (by simp) _
end Fk
end Go.Proofs.YtlmfjaaooklhnaaDoor
