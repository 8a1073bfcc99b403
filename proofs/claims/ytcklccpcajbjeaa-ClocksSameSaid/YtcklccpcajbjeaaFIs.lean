/- What errors.Is answers of a kind that stands alone; the lowest kind that an error is. -/
import Derived.Test.YtcklccpcajbjeaaRows
import Derived.WalkKit
import Derived.ProofKit
import Derived.OpenShut
import Derived.LaidEql
import Derived.Stop.Asserts
import Derived.RowKitTokens
import Derived.Deep.LoopGhost
import Derived.Lib.Hide
import Derived.Below
import Derived.Outline
namespace Go.Proofs.Ytcklccpcajbjeaa
open Go.ChangeShapes Go.WideShapes Go.ChangeAt Go.RowKit Go.Extern.Stop Go.Stop Go.Extern
namespace Fk

section
variable {P : Program} (w : World)
theorem run_equalIn_iface_int (d : Nat) {ti tn : TypeId} {ms : Array (String × TypeId)} {i : TypeInfo} {k : IntKind} (a b : Int)
    (hi : P.underlying ti = some (.interface ms)) (hn : P.underlying tn = some (.int k)) (hinfo : P.info? tn = some i) (hcomp : i.comparable = true) :
    (Op.equalIn (d + 2) ti (.iface tn (.int k a)) (.iface tn (.int k b))).run P w = .ok (a == b) w := by
  simp [Op.equalIn, run_underlying hi, run_underlying hn, typeInfo, hinfo, hcomp]
theorem run_eql_iface_int {ti tn : TypeId} {ms : Array (String × TypeId)} {i : TypeInfo} {k : IntKind} (a b : Int)
    (hi : P.underlying ti = some (.interface ms)) (hn : P.underlying tn = some (.int k)) (hinfo : P.info? tn = some i) (hcomp : i.comparable = true) :
    (binOp .eql ti (.iface tn (.int k a)) (.iface tn (.int k b))).run P w = .ok (.bool (a == b)) w := by
  simp only [binOp]
  simp [Op.equal, Op.maxDepth, run_equalIn_iface_int w 9998 a b hi hn hinfo hcomp]
end

theorem ret_bool {a b : Bool} (h : a = b) : Ending.returned (.bool a) = .returned (.bool b) := by rw [h]
theorem ret_int {k : IntKind} {a b : Int} (h : a = b) : Ending.returned (.int k a) = .returned (.int k b) := by rw [h]

theorem isTypeOf (v : Value) (w : World) : (Extern.ReflectliteType.typeOf #[.iface 43 v]).run Try.prog w = .ok (.iface 177 (.agg #[.pointer (some ⟨0, 43, none⟩)])) w := by kernel_rfl
def cmpExt : Array Value → Sem Value := Extern.ReflectliteType.method fun t => do Extern.Rtype.noPackHeld "Comparable" t; pure (.bool (← typeInfo t).comparable)
theorem isComparable (w : World) : (cmpExt #[.agg #[.pointer (some ⟨0, 43, none⟩)]]).run Try.prog w = .ok (.bool true) w := by kernel_rfl
theorem isMethodComparable (v : Value) (w : World) : (Go.method 324 177 v "Comparable").run Try.prog w = .ok (103, v) w := by kernel_rfl
theorem isComp : (Try.prog.info? 43).map (·.comparable) = some true := by kernel_rfl

theorem noIsK (v : Value) (xT : TypeId) (w : World) : (Instr.typeAssert (.iface 43 v) xT 110 true).run Try.prog w = .ok (.tuple #[.nilIface, .bool false]) w := run_typeAssert_lacksB Try.underlying110 (by kernel_rfl) (by kernel_rfl) v xT w
theorem noUnwrapK (v : Value) (xT : TypeId) (w : World) : (Instr.typeAssert (.iface 43 v) xT 116 true).run Try.prog w = .ok (.tuple #[.nilIface, .bool false]) w := run_typeAssert_lacksB Try.underlying116 (by kernel_rfl) (by kernel_rfl) v xT w
theorem noUnwrapsK (v : Value) (xT : TypeId) (w : World) : (Instr.typeAssert (.iface 43 v) xT 119 true).run Try.prog w = .ok (.tuple #[.nilIface, .bool false]) w := run_typeAssert_lacksB Try.underlying119 (by kernel_rfl) (by kernel_rfl) v xT w
theorem noIsA (v : Value) (xT : TypeId) (w : World) : (Instr.typeAssert (.iface 114 v) xT 110 true).run Try.prog w = .ok (.tuple #[.nilIface, .bool false]) w := run_typeAssert_lacksB Try.underlying110 (by kernel_rfl) (by kernel_rfl) v xT w
theorem hasIsL (v : Value) (xT : TypeId) (w : World) : (Instr.typeAssert (.iface 113 v) xT 110 true).run Try.prog w = .ok (.tuple #[.iface 113 v, .bool true]) w := run_typeAssert_hasB Try.underlying110 (by kernel_rfl) v xT w
theorem noUnwrapL (v : Value) (xT : TypeId) (w : World) : (Instr.typeAssert (.iface 113 v) xT 116 true).run Try.prog w = .ok (.tuple #[.nilIface, .bool false]) w := run_typeAssert_lacksB Try.underlying116 (by kernel_rfl) (by kernel_rfl) v xT w
theorem noUnwrapsL (v : Value) (xT : TypeId) (w : World) : (Instr.typeAssert (.iface 113 v) xT 119 true).run Try.prog w = .ok (.tuple #[.nilIface, .bool false]) w := run_typeAssert_lacksB Try.underlying119 (by kernel_rfl) (by kernel_rfl) v xT w
theorem methodIsL (v : Value) (w : World) : (Go.method 324 113 v "Is").run Try.prog w = .ok (97, v) w := by kernel_rfl

set_option maxRecDepth 100000 in
set_option maxHeartbeats 1000000 in
theorem aloneIs (k t : Int) (w : World) :
    Calls Try.prog 97 #[.agg #[.iface 43 (.int .i64 k)], .iface 43 (.int .i64 t)] w fun e w' => e = .returned (.bool (k == t)) ∧ Below w.heap.size w w' := by
  obtain ⟨i, hi, hcmp⟩ := Option.map_eq_some_iff.1 isComp
  have nK := noIsK
  have heq := fun w a b => run_eql_iface_int (P := Try.prog) w a b Try.underlying38 Try.underlying43 hi hcmp
  go_enter Try.func97, Try.ntmps97
  go_wp2
  go_ret
  exact ⟨rfl, (Below.refl _ _).alloc (Nat.le_refl _) _⟩

set_option maxRecDepth 100000 in
set_option maxHeartbeats 1000000 in
theorem is_alone (k t : Int) (w : World) :
    Calls Try.prog 62 #[.iface 113 (.agg #[.iface 43 (.int .i64 k)]), .iface 43 (.int .i64 t), .bool true] w fun e w' => e = .returned (.bool (k == t)) ∧ Below w.heap.size w w' := by
  have nL := hasIsL
  have uL := noUnwrapL
  have vL := noUnwrapsL
  have mL := methodIsL
  have hty := fun x y w => run_eql_iface_types (P := Try.prog) 113 43 x y Try.underlying38 (by decide) w
  obtain ⟨b, hb⟩ : ∃ b, (k == t) = b := ⟨_, rfl⟩
  rw [hb]
  have HB := Lib.hid hb
  clear hb
  go_enter Try.func62, Try.ntmps62
  go_wp2
  refine wp_loop_rounds 1 ?_
  rw [rounds_succ]
  cases b
  all_goals
    go_wp2_with (go_at_call 97; refine (aloneIs k t _).mono ?_; rintro e w1 ⟨rfl, hw⟩; rw [HB.out])
    go_ret
    exact ⟨rfl, hw⟩

set_option maxRecDepth 100000 in
set_option maxHeartbeats 1000000 in
theorem Is_alone (k t : Int) (w : World) :
    Calls Try.prog 40 #[.iface 113 (.agg #[.iface 43 (.int .i64 k)]), .iface 43 (.int .i64 t)] w fun e w' => e = .returned (.bool (k == t)) ∧ Below w.heap.size w w' := by
  have h8 := @run_callFunc_extern Try.prog 61 _ Extern.ReflectliteType.typeOf Try.func61 (by kernel_rfl) (by kernel_rfl) (by kernel_rfl) (by kernel_rfl)
  have h32 := @run_callFunc_extern Try.prog 103 _ cmpExt Try.func103 (by kernel_rfl) (by kernel_rfl) (by kernel_rfl) (by kernel_rfl)
  have tT := isTypeOf
  have cT := isComparable
  have mR := isMethodComparable
  have hn := run_eql_iface_nil_left (P := Try.prog) w 43 (.int .i64 t) Try.underlying38
  go_enter Try.func40, Try.ntmps40
  go_wp2_with (go_at_call 62; refine (is_alone k t _).mono ?_; rintro e w' ⟨rfl, hw⟩)
  go_ret
  exact ⟨rfl, hw⟩
end Fk
end Go.Proofs.Ytcklccpcajbjeaa
