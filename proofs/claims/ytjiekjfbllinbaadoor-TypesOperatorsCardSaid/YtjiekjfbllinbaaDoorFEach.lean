/- All that an error wraps is gone through, one after the other. -/
import Derived.Test.YtjiekjfbllinbaaDoorFWhere
import Derived.Defers
import Derived.Recover
import Derived.Deep.RegionLaw
import Derived.BigQuiet
import Derived.BigRegion
import Derived.RegionTactic
import Derived.Deep.QuietTactic
namespace Go.Proofs.YtjiekjfbllinbaaDoor
open Go.ChangeShapes Go.WideShapes Go.ChangeAt Go.RowKit Go.Extern.Stop Go.Stop Go.Extern
namespace Fk
set_option linter.unusedVariables false
set_option linter.unusedSimpArgs false

theorem rec_idle (w : World) :
    CallsD Tryd.prog 62 #[] .returning w fun e u' w' => e = .returned (.tuple #[]) ∧ u' = .returning ∧ w' = w := by
  refine callsD_of_wpS Tryd.func62 rfl fun c₀ cs hu => ?_
  apply wpS_region
  cases c₀
  simp_all [wpOpsS, go_sem, recoverD, Tryd.ntmps62, Exit.thenS, bodyPostS, results, Tryd.results62]

theorem enterEach (args : Array Value) (w : World) : (callFunc 47 args).run Tryd.prog w = .ok (.enter 47 args) w := by kernel_rfl
theorem enterKind (args : Array Value) (w : World) : (callFunc 30 args).run Tryd.prog w = .ok (.enter 30 args) w := by kernel_rfl
theorem enterWhere (args : Array Value) (w : World) : (callFunc 33 args).run Tryd.prog w = .ok (.enter 33 args) w := by kernel_rfl

/-- What is called so ends as it ends. -/
theorem safely_any (fe : FuncId) (hcf : ∀ (args : Array Value) (w : World), (callFunc fe args).run Tryd.prog w = .ok (.enter fe args) w) (caps : Array Value) (w : World) (Q : World → Prop) (h : Calls Tryd.prog fe caps w fun e w' => e = .returned (.tuple #[]) ∧ Q w') :
    Calls Tryd.prog 46 #[.func (Fn.func fe) #[] caps] w fun e w' => e = .returned (.tuple #[]) ∧ Q w' := by
  have hmf : ∀ (fn : Fn) (first cap : Array Value) (w : World), (Instr.makeFunc fn first cap).run Tryd.prog w = .ok (.func fn first cap) w := fun _ _ _ _ => rfl
  have H := Lib.hid h
  clear h
  go_enter_defers Tryd.func46, Tryd.ntmps46
  go_wp2
  refine H.out.mono ?_
  rintro e w1 ⟨rfl, hq⟩
  go_wp2
  refine leaves_cons (f := 62) (args := #[]) (by simp) (by simp [go_sem]) ?_
  refine (rec_idle _).mono ?_
  rintro e u' w'' ⟨rfl, rfl, rfl⟩
  simp [Leaves, settle, results, Tryd.results46, go_sem, hq]

/-- What a walk that visits by fv goes through: R n: n errors are still to be seen, one after the other; w0: the world in which it began. -/
structure Going (fv : FuncId) (p1 p2 : Value) (b : Nat) (S : Nat → Prop) (w0 : World) (R : Nat → World → Prop) : Prop where
  kept : ∀ n w, R n w → Keeps S w0 w
  idle : ∀ w, R 0 w → Stopped w b ∨ ∃ r mb cap x ats row left, WS w b r mb cap 0 x ats row left
  next : ∀ n w, R (n + 1) w → ∃ r mb cap t u ats row left, WS w b r mb cap 1 (.iface t u) ats row left ∧ 0 < left ∧ left ≤ 2147483647 ∧
    ∀ w1, WS w1 b r mb cap 0 (.iface t u) ats row (left - 1) → Keeps (fun k => k = b) w w1 →
      Calls Tryd.prog fv #[.iface t u, p1, p2] w1 fun e w' => e = .returned (.tuple #[]) ∧ ∃ m, m ≤ n ∧ R m w'

set_option maxRecDepth 100000 in
set_option maxHeartbeats 2000000 in
theorem each1_any (fv : FuncId) (hcf : ∀ (args : Array Value) (w : World), (callFunc fv args).run Tryd.prog w = .ok (.enter fv args) w) (p1 p2 : Value) (b c1 c2 : Nat) (S : Nat → Prop) (w0 : World) (R : Nat → World → Prop) (h : Going fv p1 p2 b S w0 R)
    (h1 : w0.cell? ⟨c1, 0, none⟩ = some (.pointer (some ⟨b, 0, none⟩))) (h2 : w0.cell? ⟨c2, 0, none⟩ = some (.func (Fn.func fv) #[] #[p1, p2])) (s1 : ¬ S c1) (s2 : ¬ S c2) (sb : S b) (n : Nat) (w : World) (hR : R n w) :
    Calls Tryd.prog 47 #[.pointer (some ⟨c1, 0, none⟩), .pointer (some ⟨c2, 0, none⟩)] w fun e w' => e = .returned (.tuple #[]) ∧ R 0 w' := by
  have HG := Lib.hid h
  clear h
  go_enter Tryd.func47, Tryd.ntmps47
  go_wp2
  go_loopg [] n (fun m wr => R m wr)
  case atStart => exact hR
  case round =>
    have b1 := (HG.out.kept _ _ hrel).cell h1 s1
    have b2 := (HG.out.kept _ _ hrel).cell h2 s2
    cases gk with
    | zero =>
      have HR := Lib.hid hrel
      rcases HG.out.idle _ hrel with hs | ⟨r, mb, cap, x, ats, row, left, hs⟩
      · clear hrel
        go_wp2_with (go_at_call 45; refine (goesOn_stopped hs).mono ?_; rintro e w' ⟨rfl, rfl⟩)
        go_end0
        exact ⟨rfl, HR.out⟩
      · clear hrel
        have HS := Lib.hid hs
        clear hs
        go_wp2_with (go_at_call 45; refine (goesOn_no HS.out).mono ?_; rintro e w' ⟨rfl, rfl⟩)
        go_end0
        exact ⟨rfl, HR.out⟩
    | succ m =>
      have HK := Lib.hid (HG.out.kept _ _ hrel)
      obtain ⟨r, mb, cap, t, u, ats, row, left, hs, l0, l1, hv⟩ := HG.out.next _ _ hrel
      have a0 := hs.c0
      have a6 := hs.c6
      have ar := hs.cr
      have af := hs.fb
      have acap := hs.hcap
      have amax := hs.hmax
      unfold maxLen at amax
      have HS := Lib.hid hs
      have HV := Lib.hid hv
      clear hs hv hrel
      go_wp2_with (go_at_call 45; refine (goesOn_yes HS.out l0).mono ?_; rintro e w' ⟨rfl, rfl⟩)
      go_region
      have n1 : c1 ≠ b := fun e => s1 (e ▸ sb)
      have n2 : c2 ≠ b := fun e => s2 (e ▸ sb)
      go_wp2_with fail
      refine (HV.out _ (((HS.out.set0 0).set6 (left - 1)).keep (S := fun _ => False) (Keeps.drewN (Keeps.refl _ _) 1) id id id) ((((Keeps.refl (fun k => k = b) wr).setCell (p := ⟨b, 0, none⟩) rfl _).setCell (p := ⟨b, 6, none⟩) rfl _).drewN 1)).mono ?_
      rintro e w1 ⟨rfl, m', hm', hr'⟩
      have HR := Lib.hid hr'
      clear hr'
      go_wp2
      go_roundg m'
      case measure => omega
      case rel => exact HR.out

set_option maxRecDepth 100000 in
set_option maxHeartbeats 2000000 in
theorem each_any (fv : FuncId) (hcf : ∀ (args : Array Value) (w : World), (callFunc fv args).run Tryd.prog w = .ok (.enter fv args) w) (p1 p2 : Value) (b : Nat) (S : Nat → Prop) (w : World) (R : Nat → World → Prop)
    (h : ∀ w0, Keeps (fun _ => False) w w0 → Going fv p1 p2 b S w0 (fun n w' => Keeps S w0 w' ∧ R n w')) (hRk : ∀ n w0, Keeps (fun _ => False) w w0 → R n w → R n w0) (sb : S b) (hS : ∀ k, S k → k < w.heap.size) (n : Nat) (hR : R n w) :
    Calls Tryd.prog 29 #[.pointer (some ⟨b, 0, none⟩), .func (Fn.func fv) #[] #[p1, p2]] w fun e w' => e = .returned (.tuple #[]) ∧ R 0 w' ∧ Keeps S w w' := by
  have hmf : ∀ (fn : Fn) (first cap : Array Value) (w : World), (Instr.makeFunc fn first cap).run Tryd.prog w = .ok (.func fn first cap) w := fun _ _ _ _ => rfl
  have HG := Lib.hid h
  clear h
  go_enter Tryd.func29, Tryd.ntmps29
  go_wp2
  have hk0 : Keeps (fun _ => False) w ((w.alloc (.cells #[.pointer (some ⟨b, 0, none⟩)] 89)).alloc (.cells #[.func (Fn.func fv) #[] #[p1, p2]] 93)) := ((Keeps.refl _ _).alloc _).alloc _
  obtain ⟨w0, hw0⟩ : ∃ w0, ((w.alloc (.cells #[.pointer (some ⟨b, 0, none⟩)] 89)).alloc (.cells #[.func (Fn.func fv) #[] #[p1, p2]] 93)) = w0 := ⟨_, rfl⟩
  have b1 : w0.cell? ⟨w.heap.size, 0, none⟩ = some (.pointer (some ⟨b, 0, none⟩)) := by rw [← hw0]; simp [go_sem]
  have b2 : w0.cell? ⟨w.heap.size + 1, 0, none⟩ = some (.func (Fn.func fv) #[] #[p1, p2]) := by rw [← hw0]; simp [go_sem]
  rw [hw0] at hk0 ⊢
  have HK0 := Lib.hid hk0
  have HGo := Lib.hid (HG.out w0 hk0)
  have s1 : ¬ S w.heap.size := fun h => Nat.lt_irrefl _ (hS _ h)
  have s2 : ¬ S (w.heap.size + 1) := fun h => by have := hS _ h; omega
  clear hw0 hk0 HG
  go_loopg [] 1 (fun g wr => ∃ n, (g = 0 → n = 0) ∧ Keeps S w0 wr ∧ R n wr)
  case atStart => exact ⟨n, by simp, Keeps.refl _ _, hRk _ _ HK0.out hR⟩
  case round =>
    obtain ⟨n', hg, hk, hr⟩ := hrel
    have d1 := hk.cell b1 s1
    have HR := Lib.hid (And.intro hk hr)
    clear hk hr
    cases n' with
    | zero =>
      rcases HGo.out.idle _ HR.out with hs | ⟨r, mb, cap, x, ats, row, left, hs⟩
      · have HS := Lib.hid hs
        clear hs
        go_wp2_with (go_at_call 45; refine (goesOn_stopped HS.out).mono ?_; rintro e w' ⟨rfl, rfl⟩)
        go_end0
        exact ⟨rfl, HR.out.2, (HK0.out.mono fun _ _ h => h.elim).trans HR.out.1⟩
      · have HS := Lib.hid hs
        clear hs
        go_wp2_with (go_at_call 45; refine (goesOn_no HS.out).mono ?_; rintro e w' ⟨rfl, rfl⟩)
        go_end0
        exact ⟨rfl, HR.out.2, (HK0.out.mono fun _ _ h => h.elim).trans HR.out.1⟩
    | succ m =>
      have hg1 : gk ≠ 0 := fun e => by have := hg e; omega
      obtain ⟨r, mb, cap, t, u, ats, row, left, hs, l0, l1, hv⟩ := HGo.out.next _ _ HR.out
      have HS := Lib.hid hs
      clear hs hv hg
      go_wp2_with (first
        | (go_at_call 45; refine (goesOn_yes HS.out l0).mono ?_; rintro e w' ⟨rfl, rfl⟩)
        | (go_at_call 46; refine (safely_any _ enterEach _ _ (fun w' => Keeps S w0 w' ∧ R 0 w') (each1_any fv hcf p1 p2 b _ _ S w0 _ HGo.out b1 b2 s1 s2 sb _ _ HR.out)).mono ?_; rintro e w2 ⟨rfl, hk2, hr2⟩; have HR2 := Lib.hid (And.intro hk2 hr2); clear hk2 hr2))
      go_roundg 0
      case measure => omega
      case rel => exact ⟨0, fun _ => rfl, HR2.out⟩
end Fk
end Go.Proofs.YtjiekjfbllinbaaDoor
