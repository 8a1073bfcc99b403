/- Package names' sets: a name is added; lists that have a name. -/
import Derived.Test.YtecfknbhnhcioaaGreatDoorNs
namespace Go.Proofs.YtecfknbhnhcioaaGreatDoor
open Go.ChangeShapes Go.WideShapes Go.ChangeAt Go.RowKit Go.Maps
namespace Tx
set_option linter.unusedVariables false
set_option linter.unusedSimpArgs false
set_option maxRecDepth 100000 in
set_option maxHeartbeats 1000000 in
theorem setAdd_has (mb : Nat) (ns : List ByteArray) (s : ByteArray) (hs : s.size ≤ maxLen) (w : World) (h : SetAt mb ns w) (hh : Maps.has (Sd ns) (kl s) = true) :
    Calls Tryz.prog 23 #[.map (some mb), .string s] w fun e w' => e = .returned (.bool false) ∧ Below w.heap.size w w' := by
  have HO := Lib.hid h
  clear h
  go_enter Tryz.func23, Tryz.ntmps23
  go_wp2_with fail
  refine (has_any mb ns s hs w HO.out).mono ?_
  rintro e w1 ⟨rfl, hb⟩
  rw [hh]
  go_wp2
  go_ret
  exact ⟨rfl, hb⟩
theorem Keeps.grownB {w w' : World} {row : Option Nat} (h : w.grownBy w' row) : Keeps (fun k => row = some k) w w' := ⟨h.os, h.tape, h.output, h.size, fun k hk hs => h.block k hk (fun e => hs e.symm)⟩
set_option maxRecDepth 100000 in
set_option maxHeartbeats 2000000 in
theorem setAdd_new (mb : Nat) (ns : List ByteArray) (s : ByteArray) (hs : s.size ≤ maxLen) (hlen : ns.length ≤ 3000000) (w : World) (h : SetAt mb ns w) (hh : Maps.has (Sd ns) (kl s) = false) :
    Calls Tryz.prog 23 #[.map (some mb), .string s] w fun e w' => e = .returned (.bool true) ∧ SetAt mb (ns ++ [s]) w' ∧ Keeps (fun k => k = mb) w w' := by
  have hkey := kl_key s hs
  have HO := Lib.hid h
  have hml : ns.length < maxLen := by unfold maxLen; omega
  clear h
  go_enter Tryz.func23, Tryz.ntmps23
  go_wp2_with fail
  refine (has_any mb ns s hs w HO.out).mono ?_
  rintro e w0 ⟨rfl, hb⟩
  rw [hh]
  have hk0 : w0.ownsMap Tryz.prog 9 unitElem mb ns.length (Sd ns) := by
    have := HO.out
    exact this.kept (show w.grownBy w0 none from ⟨hb.os, hb.tape, hb.output, hb.size, fun k hk _ => hb.block k hk⟩) (by simp)
  have HK := Lib.hid hk0
  have HB := Lib.hid hb
  clear hk0 hb
  go_wp2_with (at_mapUpdate; refine wpList_mapUpdate_in _ rfl _ _ _ 73 rfl 9 118 lawStr Tryz.underlying73 (unitElem (H := Unit)) mb _ _ rfl HK.out hml _ _ _ rfl rfl hkey _ [] unitElem_mk ?_; intro w1 hown1 hturn1; have hg1 := hturn1.grown)
  go_ret
  refine ⟨rfl, ?_, (Keeps.below HB.out).trans ((Keeps.grownB hg1).mono fun k _ e => (Option.some.inj e).symm)⟩
  unfold SetAt
  rw [sd_snoc, List.length_append, List.length_singleton]
  exact hown1
end Tx
end Go.Proofs.YtecfknbhnhcioaaGreatDoor
