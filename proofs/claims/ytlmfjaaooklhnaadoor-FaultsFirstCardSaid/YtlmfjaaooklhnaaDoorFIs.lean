/- What errors.Is answers of a kind that stands alone; the lowest kind that an error is. -/
import Derived.Test.YtlmfjaaooklhnaaDoorRows
import Derived.WalkKit
import Derived.ProofKit
import Derived.OpenShut
import Derived.LaidEql
import Derived.Stop.Asserts
import Derived.RowKitTokens
import Derived.Deep.LoopGhost
import Derived.Lib.Hide
import Derived.Below
import Derived.Outline
namespace Go.Proofs.YtlmfjaaooklhnaaDoor
open Go.ChangeShapes Go.WideShapes Go.ChangeAt Go.RowKit Go.Extern.Stop Go.Stop Go.Extern
namespace Fk

section
variable {P : Program} (w : World)
theorem run_equalIn_iface_int (d : Nat) {ti tn : TypeId} {ms : Array (String × TypeId)} {i : TypeInfo} {k : IntKind} (a b : Int)
    (hi : P.underlying ti = some (.interface ms)) (hn : P.underlying tn = some (.int k)) (hinfo : P.info? tn = some i) (hcomp : i.comparable = true) :
    (Op.equalIn (d + 2) ti (.iface tn (.int k a)) (.iface tn (.int k b))).run P w = .ok (a == b) w := by
  simp [Op.equalIn, run_underlying hi, run_underlying hn, typeInfo, hinfo, hcomp]
theorem run_eql_iface_int {ti tn : TypeId} {ms : Array (String × TypeId)} {i : TypeInfo} {k : IntKind} (a b : Int)
    (hi : P.underlying ti = some (.interface ms)) (hn : P.underlying tn = some (.int k)) (hinfo : P.info? tn = some i) (hcomp : i.comparable = true) :
    (binOp .eql ti (.iface tn (.int k a)) (.iface tn (.int k b))).run P w = .ok (.bool (a == b)) w := by
  simp only [binOp]
  simp [Op.equal, Op.maxDepth, run_equalIn_iface_int w 9998 a b hi hn hinfo hcomp]
end

theorem ret_bool {a b : Bool} (h : a = b) : Ending.returned (.bool a) = .returned (.bool b) := by rw [h]
theorem ret_int {k : IntKind} {a b : Int} (h : a = b) : Ending.returned (.int k a) = .returned (.int k b) := by rw [h]

theorem isTypeOf (v : Value) (w : World) : (Extern.ReflectliteType.typeOf #[.iface 26 v]).run Tryd.prog w = .ok (.iface 94 (.agg #[.pointer (some ⟨4, 26, none⟩)])) w := by kernel_rfl
def cmpExt : Array Value → Sem Value := Extern.ReflectliteType.method fun t => do Extern.Rtype.noPackHeld "Comparable" t; pure (.bool (← typeInfo t).comparable)
theorem isComparable (w : World) : (cmpExt #[.agg #[.pointer (some ⟨4, 26, none⟩)]]).run Tryd.prog w = .ok (.bool true) w := by kernel_rfl
theorem isMethodComparable (v : Value) (w : World) : (Go.method 253 94 v "Comparable").run Tryd.prog w = .ok (98, v) w := by kernel_rfl
theorem isComp : (Tryd.prog.info? 26).map (·.comparable) = some true := by kernel_rfl

theorem noIsK (v : Value) (xT : TypeId) (w : World) : (Instr.typeAssert (.iface 26 v) xT 58 true).run Tryd.prog w = .ok (.tuple #[.nilIface, .bool false]) w := run_typeAssert_lacksB Tryd.underlying58 (by kernel_rfl) (by kernel_rfl) v xT w
theorem noUnwrapK (v : Value) (xT : TypeId) (w : World) : (Instr.typeAssert (.iface 26 v) xT 63 true).run Tryd.prog w = .ok (.tuple #[.nilIface, .bool false]) w := run_typeAssert_lacksB Tryd.underlying63 (by kernel_rfl) (by kernel_rfl) v xT w
theorem noUnwrapsK (v : Value) (xT : TypeId) (w : World) : (Instr.typeAssert (.iface 26 v) xT 66 true).run Tryd.prog w = .ok (.tuple #[.nilIface, .bool false]) w := run_typeAssert_lacksB Tryd.underlying66 (by kernel_rfl) (by kernel_rfl) v xT w
theorem noAsK (v : Value) (xT : TypeId) (w : World) : (Instr.typeAssert (.iface 26 v) xT 69 true).run Tryd.prog w = .ok (.tuple #[.nilIface, .bool false]) w := run_typeAssert_lacksB Tryd.underlying69 (by kernel_rfl) (by kernel_rfl) v xT w
theorem noIsA (v : Value) (xT : TypeId) (w : World) : (Instr.typeAssert (.iface 39 v) xT 58 true).run Tryd.prog w = .ok (.tuple #[.nilIface, .bool false]) w := run_typeAssert_lacksB Tryd.underlying58 (by kernel_rfl) (by kernel_rfl) v xT w
theorem hasIsL (v : Value) (xT : TypeId) (w : World) : (Instr.typeAssert (.iface 61 v) xT 58 true).run Tryd.prog w = .ok (.tuple #[.iface 61 v, .bool true]) w := run_typeAssert_hasB Tryd.underlying58 (by kernel_rfl) v xT w
theorem noUnwrapL (v : Value) (xT : TypeId) (w : World) : (Instr.typeAssert (.iface 61 v) xT 63 true).run Tryd.prog w = .ok (.tuple #[.nilIface, .bool false]) w := run_typeAssert_lacksB Tryd.underlying63 (by kernel_rfl) (by kernel_rfl) v xT w
theorem noUnwrapsL (v : Value) (xT : TypeId) (w : World) : (Instr.typeAssert (.iface 61 v) xT 66 true).run Tryd.prog w = .ok (.tuple #[.nilIface, .bool false]) w := run_typeAssert_lacksB Tryd.underlying66 (by kernel_rfl) (by kernel_rfl) v xT w
theorem methodIsL (v : Value) (w : World) : (Go.method 253 61 v "Is").run Tryd.prog w = .ok (92, v) w := by kernel_rfl

set_option maxRecDepth 100000 in
set_option maxHeartbeats 1000000 in
theorem aloneIs (k t : Int) (w : World) :
    Calls Tryd.prog 92 #[.agg #[.iface 26 (.int .i64 k)], .iface 26 (.int .i64 t)] w fun e w' => e = .returned (.bool (k == t)) ∧ Below w.heap.size w w' := by
  obtain ⟨i, hi, hcmp⟩ := Option.map_eq_some_iff.1 isComp
  have nK := noIsK
  have heq := fun w a b => run_eql_iface_int (P := Tryd.prog) w a b Tryd.underlying29 Tryd.underlying26 hi hcmp
  go_enter Tryd.func92, Tryd.ntmps92
  go_wp2
  go_ret
  exact ⟨rfl, (Below.refl _ _).alloc (Nat.le_refl _) _⟩

set_option maxRecDepth 100000 in
set_option maxHeartbeats 1000000 in
theorem is_alone (k t : Int) (w : World) :
    Calls Tryd.prog 38 #[.iface 61 (.agg #[.iface 26 (.int .i64 k)]), .iface 26 (.int .i64 t), .bool true] w fun e w' => e = .returned (.bool (k == t)) ∧ Below w.heap.size w w' := by
  have nL := hasIsL
  have uL := noUnwrapL
  have vL := noUnwrapsL
  have mL := methodIsL
  have hty := fun x y w => run_eql_iface_types (P := Tryd.prog) 61 26 x y Tryd.underlying29 (by decide) w
  obtain ⟨b, hb⟩ : ∃ b, (k == t) = b := ⟨_, rfl⟩
  rw [hb]
  have HB := Lib.hid hb
  clear hb
  go_enter Tryd.func38, Tryd.ntmps38
  go_wp2
  refine wp_loop_rounds 1 ?_
  rw [rounds_succ]
  cases b
  all_goals
    go_wp2_with (go_at_call 92; refine (aloneIs k t _).mono ?_; rintro e w1 ⟨rfl, hw⟩; rw [HB.out])
    go_ret
    exact ⟨rfl, hw⟩

set_option maxRecDepth 100000 in
set_option maxHeartbeats 1000000 in
theorem Is_alone (k t : Int) (w : World) :
    Calls Tryd.prog 29 #[.iface 61 (.agg #[.iface 26 (.int .i64 k)]), .iface 26 (.int .i64 t)] w fun e w' => e = .returned (.bool (k == t)) ∧ Below w.heap.size w w' := by
  have h8 := @run_callFunc_extern Tryd.prog 37 _ Extern.ReflectliteType.typeOf Tryd.func37 (by kernel_rfl) (by kernel_rfl) (by kernel_rfl) (by kernel_rfl)
  have h32 := @run_callFunc_extern Tryd.prog 98 _ cmpExt Tryd.func98 (by kernel_rfl) (by kernel_rfl) (by kernel_rfl) (by kernel_rfl)
  have tT := isTypeOf
  have cT := isComparable
  have mR := isMethodComparable
  have hn := run_eql_iface_nil_left (P := Tryd.prog) w 26 (.int .i64 t) Tryd.underlying29
  go_enter Tryd.func29, Tryd.ntmps29
  go_wp2_with (go_at_call 38; refine (is_alone k t _).mono ?_; rintro e w' ⟨rfl, hw⟩)
  go_ret
  exact ⟨rfl, hw⟩
end Fk
end Go.Proofs.YtlmfjaaooklhnaaDoor
