/- Package names' sets. -/
import Derived.Test.YtecfknbhnhcioaaGreatDoorTw
import Derived.Maps.OwnSet
import Derived.Maps.Views
import Derived.Maps.OwnOps
import Derived.Maps.AppendAt
namespace Go.Proofs.YtecfknbhnhcioaaGreatDoor
open Go.ChangeShapes Go.WideShapes Go.ChangeAt Go.RowKit Go.Maps
namespace Tx
set_option linter.unusedVariables false
set_option linter.unusedSimpArgs false
theorem lawStr : Keyed Tryz.prog 9 := string_keyed Tryz.underlying9
theorem zeroUnit (w : World) : (zeroValue 118).run Tryz.prog w = .ok (.agg #[]) w := by kernel_rfl
def kl (s : ByteArray) : Lit := .string s.data.toList
/-- The set of some names. -/
def Sd (ns : List ByteArray) : DataW Unit := setOf (.agg []) (ns.map kl)
theorem kl_key (s : ByteArray) (hs : s.size ≤ maxLen) : keyOf Tryz.prog 9 (.string s) = some (kl s) := Go.WideMaps.keyOf_string_mk Tryz.underlying9 hs
theorem sd_snoc (ns : List ByteArray) (s : ByteArray) : Sd (ns ++ [s]) = (Sd ns).put (kl s) (.agg []) := by unfold Sd; rw [List.map_append, List.map_singleton, setOf_snoc]
/-- A set of a call's own: n names, each once. -/
def SetAt (mb : Nat) (ns : List ByteArray) (w : World) : Prop := w.ownsMap Tryz.prog 9 unitElem mb ns.length (Sd ns)
set_option maxRecDepth 100000 in
set_option maxHeartbeats 1000000 in
theorem has_any (mb : Nat) (ns : List ByteArray) (s : ByteArray) (hs : s.size ≤ maxLen) (w : World) (h : SetAt mb ns w) :
    Calls Tryz.prog 47 #[.map (some mb), .string s] w fun e w' => e = .returned (.bool (Maps.has (Sd ns) (kl s))) ∧ Below w.heap.size w w' := by
  have hkey := kl_key s hs
  have HO := Lib.hid h
  clear h hs
  go_enter Tryz.func47, Tryz.ntmps47
  go_wp2_with (at_lookup; refine wpList_lookup_own_unit _ rfl _ _ 73 rfl 9 118 lawStr Tryz.underlying73 (zeroUnit _) mb _ _ rfl HO.out _ _ rfl hkey ?_)
  go_ret
  exact ⟨rfl, (Below.refl _ _).alloc (Nat.le_refl _) _⟩
end Tx
end Go.Proofs.YtecfknbhnhcioaaGreatDoor
