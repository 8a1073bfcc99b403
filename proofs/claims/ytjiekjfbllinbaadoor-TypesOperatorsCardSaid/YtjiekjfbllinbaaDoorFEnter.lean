/- What an error wraps is laid ahead of all that is still to be gone through. -/
import Derived.Test.YtjiekjfbllinbaaDoorFWalk
import Derived.WideKeyElems
namespace Go.Proofs.YtjiekjfbllinbaaDoor
open Go.ChangeShapes Go.WideShapes Go.ChangeAt Go.RowKit Go.Extern.Stop Go.Stop Go.Extern
namespace Fk
set_option linter.unusedVariables false
set_option linter.unusedSimpArgs false

theorem zeroUnit (w : World) : (zeroValue 132).run Tryd.prog w = .ok (.agg #[]) w := by kernel_rfl
theorem keyOk (a : Addr) (w : World) : (Instr.checkKey true 10000 20 (.iface 94 (.pointer (some a)))).run Tryd.prog w = .ok () w := by kernel_rfl
theorem keyNone (a : Addr) (w : World) : (Instr.findKey 20 (.iface 94 (.pointer (some a))) []).run Tryd.prog w = .ok none w := by kernel_rfl
theorem lookup_none {w : World} {mb : Nat} (a : Addr) (h : ∃ clock, w.heap[mb]? = some (.map #[] clock)) :
    (Instr.lookup 106 (.map (some mb)) (.iface 94 (.pointer (some a))) true).run Tryd.prog w = .ok (.tuple #[.agg #[], .bool false]) w := by
  obtain ⟨cl, hcl⟩ := h
  have hz := zeroUnit w
  have hk := keyOk a w
  have hn := keyNone a w
  simp [Instr.lookup, run_underlying Tryd.underlying106, MapKept.run_getObj_map hcl, hk, hn, hz, Result.andThen]

set_option maxRecDepth 100000 in
set_option maxHeartbeats 1000000 in
theorem enterAt_some {w : World} {b r mb cap pb po : Nat} {x : Value} {ats row left : Int} (t : TypeId) (u : Value) (h : WS w b r mb cap 0 x ats row left) (hc : w.cell? ⟨pb, po + 4, none⟩ = some (.iface t u)) (h0 : 0 ≤ ats) (h1 : ats ≤ 60) (hpb : pb ≠ b) :
    Calls Tryd.prog 49 #[.pointer (some ⟨b, 0, none⟩), .pointer (some ⟨pb, po, none⟩)] w fun e w' => e = .returned (.tuple #[]) ∧ WS w' b r mb cap 1 (.iface t u) (ats + 1) row left ∧ Keeps (two b r) w w' := by
  have hlk := lookup_none (w := w) (mb := mb) ⟨pb, po, none⟩ h.m
  have c1 := h.c1
  have c2 := h.c2
  have fb := h.fb
  have br := h.br
  have lb := World.block_lt_of_cell? w _ h.c0
  have lp := World.block_lt_of_cell? w _ hc
  simp only at lb lp
  have hm : ((ats + 1) % 64 == 0) = false := by rw [beq_eq_false_iff_ne]; omega
  have H := Lib.hid h
  clear h
  go_enter Tryd.func49, Tryd.ntmps49
  go_wp2_with (go_at_call 44; refine (add_some (x := x) t u ((H.out.set2 (ats + 1)).keep (S := fun _ => False) ((Keeps.refl _ _).alloc _) id id id)).mono ?_; rintro e w1 ⟨rfl, hw, hk⟩)
  go_end0
  exact ⟨rfl, hw, (((Keeps.refl _ _).setCell (.inl rfl) _).alloc _).trans hk⟩

set_option maxRecDepth 100000 in
set_option maxHeartbeats 1000000 in
theorem enterAt_nil {w : World} {b r mb cap pb po : Nat} {x : Value} {ats row left : Int} (h : WS w b r mb cap 0 x ats row left) (hc : w.cell? ⟨pb, po + 4, none⟩ = some .nilIface) (h0 : 0 ≤ ats) (h1 : ats ≤ 60) (hpb : pb ≠ b) :
    Calls Tryd.prog 49 #[.pointer (some ⟨b, 0, none⟩), .pointer (some ⟨pb, po, none⟩)] w fun e w' => e = .returned (.tuple #[]) ∧ WS w' b r mb cap 0 x (ats + 1) row left ∧ Keeps (two b r) w w' := by
  have hlk := lookup_none (w := w) (mb := mb) ⟨pb, po, none⟩ h.m
  have c1 := h.c1
  have c2 := h.c2
  have fb := h.fb
  have br := h.br
  have lb := World.block_lt_of_cell? w _ h.c0
  have lp := World.block_lt_of_cell? w _ hc
  simp only at lb lp
  have hm : ((ats + 1) % 64 == 0) = false := by rw [beq_eq_false_iff_ne]; omega
  have H := Lib.hid h
  clear h
  go_enter Tryd.func49, Tryd.ntmps49
  go_wp2_with (go_at_call 44; refine (add_nil _ _).mono ?_; rintro e w1 ⟨rfl, rfl⟩)
  go_end0
  exact ⟨rfl, (H.out.set2 (ats + 1)).keep (S := fun _ => False) ((Keeps.refl _ _).alloc _) id id id, (((Keeps.refl _ _).setCell (.inl rfl) _).alloc _)⟩

set_option maxRecDepth 100000 in
set_option maxHeartbeats 1000000 in
theorem enter_at {w : World} {b r mb cap pb po : Nat} {x : Value} {ats row left : Int} (t : TypeId) (u : Value) (h : WS w b r mb cap 0 x ats row left) (hc : w.cell? ⟨pb, po + 4, none⟩ = some (.iface t u)) (h0 : 0 ≤ ats) (h1 : ats ≤ 60) (hpb : pb ≠ b) :
    Calls Tryd.prog 32 #[.pointer (some ⟨b, 0, none⟩), .iface 94 (.pointer (some ⟨pb, po, none⟩))] w fun e w' => e = .returned (.tuple #[]) ∧ WS w' b r mb cap 1 (.iface t u) (ats + 1) 0 left ∧ Keeps (two b r) w w' := by
  have cA := asAA
  have c4 := h.c4
  have fb := h.fb
  have lb := World.block_lt_of_cell? w _ h.c0
  have lp := World.block_lt_of_cell? w _ hc
  simp only at lb lp
  have H := Lib.hid h
  have HC := Lib.hid hc
  clear h hc
  go_enter Tryd.func32, Tryd.ntmps32
  go_wp2_with (go_at_call 49; refine (enterAt_some t u (H.out.set4 0) (by have := HC.out; simp [go_sem, hpb, this]) h0 h1 hpb).mono ?_; rintro e w1 ⟨rfl, hw, hk⟩)
  go_end0
  exact ⟨rfl, hw, ((Keeps.refl _ _).setCell (.inl rfl) _).trans hk⟩

set_option maxRecDepth 100000 in
set_option maxHeartbeats 1000000 in
theorem enter_atNil {w : World} {b r mb cap pb po : Nat} {x : Value} {ats row left : Int} (h : WS w b r mb cap 0 x ats row left) (hc : w.cell? ⟨pb, po + 4, none⟩ = some .nilIface) (h0 : 0 ≤ ats) (h1 : ats ≤ 60) (hpb : pb ≠ b) :
    Calls Tryd.prog 32 #[.pointer (some ⟨b, 0, none⟩), .iface 94 (.pointer (some ⟨pb, po, none⟩))] w fun e w' => e = .returned (.tuple #[]) ∧ WS w' b r mb cap 0 x (ats + 1) 0 left ∧ Keeps (two b r) w w' := by
  have cA := asAA
  have c4 := h.c4
  have fb := h.fb
  have lb := World.block_lt_of_cell? w _ h.c0
  have lp := World.block_lt_of_cell? w _ hc
  simp only at lb lp
  have H := Lib.hid h
  have HC := Lib.hid hc
  clear h hc
  go_enter Tryd.func32, Tryd.ntmps32
  go_wp2_with (go_at_call 49; refine (enterAt_nil (H.out.set4 0) (by have := HC.out; simp [go_sem, hpb, this]) h0 h1 hpb).mono ?_; rintro e w1 ⟨rfl, hw, hk⟩)
  go_end0
  exact ⟨rfl, hw, ((Keeps.refl _ _).setCell (.inl rfl) _).trans hk⟩

set_option maxRecDepth 100000 in
set_option maxHeartbeats 1000000 in
theorem enter_kind {w : World} {b r mb cap n : Nat} {x : Value} {ats row left : Int} (k : Value) (h : WS w b r mb cap n x ats row left) :
    Calls Tryd.prog 32 #[.pointer (some ⟨b, 0, none⟩), .iface 62 k] w fun e w' => e = .returned (.tuple #[]) ∧ WS w' b r mb cap n x ats 0 left ∧ Keeps (two b r) w w' := by
  have cK := asKA
  have u1 := noUnwrapK
  have u2 := noUnwrapsK
  have c4 := h.c4
  have fb := h.fb
  have lb := World.block_lt_of_cell? w _ h.c0
  simp only at lb
  have H := Lib.hid h
  clear h
  go_enter Tryd.func32, Tryd.ntmps32
  go_wp2
  go_end0
  exact ⟨rfl, H.out.set4 0, (Keeps.refl _ _).setCell (.inl rfl) _⟩
end Fk
end Go.Proofs.YtjiekjfbllinbaaDoor
