/- Two expressions compared but for their kids. -/
import Derived.Test.YtggoejghnlgigaaTq
import Derived.Test.YtggoejghnlgigaaTv
namespace Go.Proofs.Ytggoejghnlgigaa
open Go.ChangeShapes Go.WideShapes Go.ChangeAt Go.RowKit Go.Maps
namespace Tx
set_option linter.unusedVariables false
set_option linter.unusedSimpArgs false
theorem ExAt.e (j : Nat) {P : Nat → Prop} {w : World} {b o : Nat} {d : Dt} {ks : Fo} {nv kv : Value} (h : ExAt P w b o d ks nv kv) {v : Value} (hv : (cells d nv kv)[j]? = some v) : w.cell? ⟨b, o + j, none⟩ = some v := h.cell j v hv
set_option maxRecDepth 100000 in
set_option maxHeartbeats 4000000 in
theorem butKids_any (P : Nat → Prop) (w : World) (b1 o1 b2 o2 : Nat) (d1 d2 : Dt) (ks1 ks2 : Fo) (nv1 kv1 nv2 kv2 : Value) (h1 : ExAt P w b1 o1 d1 ks1 nv1 kv1) (h2 : ExAt P w b2 o2 d2 ks2 nv2 kv2) :
    Calls Try.prog 56 #[.pointer (some ⟨b1, o1, none⟩), .pointer (some ⟨b2, o2, none⟩)] w (SaysQ w (sameD d1 d2)) := by
  have x0 : w.cell? ⟨b1, o1, none⟩ = some (.int .u8 d1.k) := h1.e 0 (v := .int .u8 d1.k) rfl
  have x1 := h1.e 1 (v := .int .u8 d1.op) rfl
  have x2 := h1.e 2 (v := .int .i32 d1.n) rfl
  have x3 := h1.e 3 (v := .string d1.nm) rfl
  have x4 := h1.e 4 (v := nv1) rfl
  have y0 : w.cell? ⟨b2, o2, none⟩ = some (.int .u8 d2.k) := h2.e 0 (v := .int .u8 d2.k) rfl
  have y1 := h2.e 1 (v := .int .u8 d2.op) rfl
  have y2 := h2.e 2 (v := .int .i32 d2.n) rfl
  have y3 := h2.e 3 (v := .string d2.nm) rfl
  have y4 := h2.e 4 (v := nv2) rfl
  have HN1 := Lib.hid h1.names
  have HN2 := Lib.hid h2.names
  clear h1 h2
  unfold sameD
  cases t0 : (d1.k == d2.k)
  · simp only [Bool.false_and]
    go_enter Try.func56, Try.ntmps56
    go_wp2
    go_quiet (fail)
    go_wp2
    go_ret
    exact ⟨rfl, _, rfl⟩
  cases t1 : (d1.op == d2.op)
  · simp only [Bool.false_and, Bool.true_and]
    go_enter Try.func56, Try.ntmps56
    go_wp2
    go_quiet (fail)
    go_wp2
    go_ret
    exact ⟨rfl, _, rfl⟩
  cases t2 : (d1.n == d2.n)
  · simp only [Bool.false_and, Bool.true_and]
    go_enter Try.func56, Try.ntmps56
    go_wp2
    go_quiet (fail)
    go_wp2
    go_ret
    exact ⟨rfl, _, rfl⟩
  cases t3 : (d1.nm.toList == d2.nm.toList)
  · simp only [Bool.false_and, Bool.true_and]
    go_enter Try.func56, Try.ntmps56
    go_wp2
    go_quiet (fail)
    go_wp2
    go_ret
    exact ⟨rfl, _, rfl⟩
  simp only [Bool.true_and]
  generalize hs : sameN d1.ns d2.ns = q
  have HE : Hid (∀ n, Calls Try.prog 57 #[nv1, nv2] (w.drewN n) (fun e w' => e = .returned (.bool q) ∧ ∃ m, w' = (w.drewN n).drewN m)) := Lib.hid (fun n => by
    have h := equal_any P (w.drewN n) nv1 nv2 d1.ns d2.ns (HN1.out.keep (fun b o v hb hc => hc)) (HN2.out.keep (fun b o v hb hc => hc))
    rw [hs] at h
    exact h)
  clear hs
  go_enter Try.func56, Try.ntmps56
  go_wp2
  go_quiet ((go_at_call 57; exact Calls.quiet_of (HE.out _)))
  go_wp2
  go_ret
  exact ⟨rfl, _, rfl⟩
end Tx
end Go.Proofs.Ytggoejghnlgigaa
