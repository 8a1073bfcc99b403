/- Package names: what is known of variables. -/
import Derived.Test.YtecfknbhnhcioaaGreatDoorNb
import Derived.BigRegion
import Derived.Deep.RegionHeld3
import Derived.Deep.AppendLies
import Derived.Laws.OwnMore
import Derived.Deep.Cut
import Derived.Deep.CutRange
import Derived.Deep.DeepCutAuto
import Derived.Deep.RegionLaw
namespace Go.Proofs.YtecfknbhnhcioaaGreatDoor
open Go.ChangeShapes Go.WideShapes Go.ChangeAt Go.RowKit Go.Maps
namespace Tx
set_option linter.unusedVariables false
set_option linter.unusedSimpArgs false
/-- How two truths read: what is known of a variable. -/
def pairElem : Value → Option (DataW Unit × List MemPlace)
  | .agg cs => match cs.toList with
    | [.bool a, .bool b] => some (.agg [.lit (.bool a), .lit (.bool b)], [])
    | _ => none
  | _ => none
def pairD : DataW Unit := .agg [.lit (.bool false), .lit (.bool false)]
theorem pairElem_mk : pairElem (.agg #[.bool false, .bool false]) = some (pairD, []) := rfl
theorem pairElem_inv {v : Value} {ps : List MemPlace} (h : pairElem v = some (pairD, ps)) : v = .agg #[.bool false, .bool false] := by
  unfold pairElem pairD at h
  split at h
  · rename_i cs
    split at h
    · rename_i a b hc
      simp only [Option.some.injEq, Prod.mk.injEq, DataW.agg.injEq, List.cons.injEq, DataW.lit.injEq, Lit.bool.injEq] at h
      obtain ⟨⟨h1, h2, _⟩, _⟩ := h
      have e : cs = #[.bool a, .bool b] := Array.ext' (by simpa using hc)
      rw [e, h1, h2]
    · cases h
  · cases h
theorem atKey_fold (u : DataW Unit) (k : Lit) : ∀ (acc : List Lit) (m : DataW Unit), Maps.Tidy m → m.atKey k u = u → (∀ x ∈ acc, WideAt.IsKeyLit x) → (acc.foldl (fun m x => m.put x u) m).atKey k u = u
  | [], m, _, hm, _ => hm
  | x :: r, m, ht, hm, h => by
    refine atKey_fold u k r (m.put x u) (ht.put (h x (by simp)) u) ?_ (fun y hy => h y (by simp [hy]))
    by_cases e : k = x
    · subst e
      exact Maps.atKey_put_same ht.isMap (h k (by simp)) _ _
    · rw [Maps.atKey_put_other e]
      exact hm
theorem atKey_setOf (u : DataW Unit) (k : Lit) (acc : List Lit) (h : ∀ x ∈ acc, WideAt.IsKeyLit x) : (setOf u acc).atKey k u = u := atKey_fold u k acc _ Maps.tidy_empty rfl h
/-- The variables of some names. -/
def Vd (ns : List ByteArray) : DataW Unit := setOf pairD (ns.map kl)
def VarsAt (vm : Nat) (ns : List ByteArray) (w : World) : Prop := w.ownsMap Tryz.prog 9 pairElem vm ns.length (Vd ns)
theorem vd_snoc (ns : List ByteArray) (s : ByteArray) : Vd (ns ++ [s]) = (Vd ns).put (kl s) pairD := by unfold Vd; rw [List.map_append, List.map_singleton, setOf_snoc]
theorem zeroPair (w : World) : (zeroValue 174).run Tryz.prog w = .ok (.agg #[.bool false, .bool false]) w := by kernel_rfl
theorem key_kl (ns : List ByteArray) : ∀ x ∈ ns.map kl, WideAt.IsKeyLit x := by
  intro x hx
  obtain ⟨y, _, rfl⟩ := List.mem_map.1 hx
  trivial
theorem run_look_vars {w : World} {vm : Nat} {ns : List ByteArray} (h : VarsAt vm ns w) (s : ByteArray) (hs : s.size ≤ maxLen) :
    (Instr.lookup 74 (.map (some vm)) (.string s) true).run Tryz.prog w = .ok (.tuple #[.agg #[.bool false, .bool false], .bool (Maps.has (Vd ns) (kl s))]) w := by
  obtain ⟨v, ps, hrun, hv⟩ := World.ownsMap.look_ok h lawStr Tryz.underlying74 (zeroPair w) pairElem_mk (kl_key s hs)
  rw [show (Vd ns).atKey (kl s) pairD = pairD from atKey_setOf pairD (kl s) _ (key_kl ns)] at hv
  obtain rfl := pairElem_inv hv
  exact hrun
set_option maxRecDepth 100000 in
set_option maxHeartbeats 2000000 in
theorem declare_first (cb vm ob : Nat) (s : ByteArray) (hs : s.size ≤ maxLen) (W : World) (h3 : W.cell? ⟨cb, 3, none⟩ = some (.map (some vm))) (hv : VarsAt vm [] W)
    (o0 : W.cell? ⟨ob, 0, none⟩ = some (.string s)) (o1 : W.cell? ⟨ob, 1, none⟩ = some (.int .u8 2)) (o2 : W.cell? ⟨ob, 2, none⟩ = some (.string ⟨#[]⟩)) (o4 : W.cell? ⟨ob, 4, none⟩ = some (.bool false)) :
    Calls Tryz.prog 48 #[.pointer (some ⟨cb, 0, none⟩), .pointer (some ⟨ob, 0, none⟩), .bool false] W fun e w' => e = .returned .nilIface ∧ VarsAt vm [s] w' ∧ Keeps (fun k => k = vm) W w' := by
  have hkey := kl_key s hs
  have HV := Lib.hid hv
  have hml : ([] : List ByteArray).length < maxLen := by unfold maxLen; simp
  clear hv
  go_enter Tryz.func48, Tryz.ntmps48
  have hn : Maps.has (Vd []) (kl s) = false := rfl
  have l0 := run_look_vars (w := W.drew) HV.out s hs
  have l1 : ∀ o, (Instr.lookup 74 (.map (some vm)) (.string s) true).run Tryz.prog (W.alloc o).drew = .ok (.tuple #[.agg #[.bool false, .bool false], .bool (Maps.has (Vd []) (kl s))]) (W.alloc o).drew := fun o => run_look_vars (show VarsAt vm [] (W.alloc o).drew from World.ownsMap.alloc HV.out o) s hs
  rw [hn] at l0
  simp only [hn] at l1
  have oA := cellA o0
  have hA := cellA h3
  go_upto_region 1 with (fail)
  go_region
  clear l0 l1
  generalize hW1 : (W.alloc _).drew = W1
  have hb1 : Below W.heap.size W W1 := by rw [← hW1]; exact belowDrew ((Below.refl _ _).alloc (Nat.le_refl _) _)
  have z1 : W1.heap.size = W.heap.size + 1 := by rw [← hW1]; simp
  have hv1 : VarsAt vm [] W1 := by rw [← hW1]; exact World.ownsMap.alloc HV.out _
  have b1 := World.block_lt_of_cell? _ _ o0
  have b2 := World.block_lt_of_cell? _ _ h3
  replace h3 := (hb1.cell (p := ⟨cb, 3, none⟩) b2).trans h3
  replace o0 := (hb1.cell (p := ⟨ob, 0, none⟩) b1).trans o0
  replace o1 := (hb1.cell (p := ⟨ob, 1, none⟩) b1).trans o1
  replace o2 := (hb1.cell (p := ⟨ob, 2, none⟩) b1).trans o2
  replace o4 := (hb1.cell (p := ⟨ob, 4, none⟩) b1).trans o4
  have H1 := Lib.hid (And.intro hb1 (And.intro hv1 z1))
  clear hW1 oA hA hb1 hv1 z1
  go_wp2_with fail
  refine (declared_int cb W1).mono ?_
  rintro e w2 ⟨rfl, hb2⟩
  have c1 := World.block_lt_of_cell? _ _ o0
  have c2 := World.block_lt_of_cell? _ _ h3
  replace h3 := (hb2.cell (p := ⟨cb, 3, none⟩) c2).trans h3
  replace o0 := (hb2.cell (p := ⟨ob, 0, none⟩) c1).trans o0
  replace o4 := (hb2.cell (p := ⟨ob, 4, none⟩) c1).trans o4
  have H2 := Lib.hid (And.intro hb2 (show VarsAt vm [] w2 from World.ownsMap.kept H1.out.2.1 (show W1.grownBy w2 none from ⟨hb2.os, hb2.tape, hb2.output, hb2.size, fun k hk _ => hb2.block k hk⟩) (by simp)))
  clear o1 o2 hb2
  go_wp2_with fail
  obtain ⟨w3, hrun, hown3, hturn3⟩ := World.ownsMap.store (w := w2.drew) H2.out.2 lawStr Tryz.underlying74 hml hkey pairElem_mk
  have H3 := Lib.hid (And.intro hown3 hturn3)
  clear hown3 hturn3
  go_region
  go_wp2
  go_ret
  refine ⟨rfl, ?_, ?_⟩
  · unfold VarsAt
    rw [show Vd [s] = (Vd []).put (kl s) pairD from rfl]
    exact H3.out.1
  · exact ((Keeps.below H1.out.1).trans (Keeps.below H2.out.1)).trans (((Keeps.refl _ _).drewN 1).trans ((Keeps.grownB H3.out.2.grown).mono fun k _ e => (Option.some.inj e).symm))
end Tx
end Go.Proofs.YtecfknbhnhcioaaGreatDoor
