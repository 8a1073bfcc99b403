/- A reader of Go code that runs it on a memory of its own: its definitions. (What it answers is shown to be what the model answers in XRb and the texts behind it.) -/
import Derived.Orders
import Derived.Scope
import Derived.Below
import Derived.Laws.Rows
namespace Go.Proofs.YtjiekjfbllinbaaDoor.Rx
open Go
set_option linter.unusedSectionVars false
set_option linter.unusedVariables false
set_option linter.unusedSimpArgs false

inductive Tr (α : Type) where
  | nil
  | node (v : Option α) (l r : Tr α)

def Tr.get {α : Type} : Tr α → Nat → Option α
  | .nil, _ => none
  | .node v _ _, 0 => v
  | .node _ l r, n + 1 => match n % 2 with
    | 0 => l.get (n / 2)
    | _ => r.get (n / 2)

def Tr.set {α : Type} : Nat → Tr α → Nat → α → Tr α
  | 0, t, _, _ => t
  | _ + 1, .nil, 0, x => .node (some x) .nil .nil
  | f + 1, .nil, n + 1, x => match n % 2 with
    | 0 => .node none (Tr.set f .nil (n / 2) x) .nil
    | _ => .node none .nil (Tr.set f .nil (n / 2) x)
  | _ + 1, .node _ l r, 0, x => .node (some x) l r
  | f + 1, .node v l r, n + 1, x => match n % 2 with
    | 0 => .node v (Tr.set f l (n / 2) x) r
    | _ => .node v l (Tr.set f r (n / 2) x)

/-- A block of the reader's memory: a row of cells (is it one that an append made, whose capacity nobody knows?), a variable of the package (never written), a map, one that is not asked for any more. -/
inductive AObj where
  | cells (c : List Value) (elem : TypeId) (grow : Bool)
  | glob (c : List Value) (elem : TypeId)
  | map (es : List (Value × Value))
  | gone

structure H where
  heap : Tr AObj
  next : Nat

def fnOk : Fn → Bool
  | .yield _ => false
  | _ => true

def flat0 : Value → Bool
  | .bool _ | .int .. | .float .. | .complex .. | .string _ | .pointer none | .map none | .chan none | .nilFunc | .nilIface | .slice none _ _ => true
  | _ => false

/-- No address in it. -/
def flat : Nat → Value → Bool
  | n + 1, .agg cs => cs.toList.all (flat n)
  | n + 1, .tuple cs => cs.toList.all (flat n)
  | n + 1, .iface _ v => flat n v
  | n + 1, .func fn a b => fnOk fn && a.toList.all (flat n) && b.toList.all (flat n)
  | _, v => flat0 v

/-- A reading that looks at the program alone. -/
def aspure (P : Program) {α : Type} : Sem α → Option α
  | .pure a => some a
  | .program k => aspure P (k P)
  | .mark _ k => aspure P k
  | _ => none

abbrev Ev := Operand → Option Value

def evH (T : Tr Value) (h : Tr AObj) : Ev
  | .tmp t => some ((T.get t).getD undef)
  | .const v => if flat 4 v then some v else none
  | .global g => match h.get g with | some (.glob ..) => some (.pointer (some ⟨g, 0, none⟩)) | _ => none
  | .func f => some (.func (.func f) #[] #[])

def evAll (E : Ev) : List Operand → Option (List Value)
  | [] => some []
  | x :: xs => match E x with
    | some v => match evAll E xs with | some vs => some (v :: vs) | none => none
    | none => none

def evParts (E : Ev) : List (Nat × Operand) → Option (List (Nat × Value))
  | [] => some []
  | (i, x) :: xs => match E x with
    | some v => match evParts E xs with | some vs => some ((i, v) :: vs) | none => none
    | none => none

/-- What a quiet operation does: it answers a value, or makes a block. -/
inductive Eff where
  | val (v : Value)
  | new (v : Value) (o : AObj)

def fsize (P : Program) (t : TypeId) : Option Nat := (P.info? t).map (·.size)

def isAggP (P : Program) (t : TypeId) : Option Bool :=
  match P.underlying t with
  | some (.struct _) | some (.array ..) => some true
  | some _ => some false
  | none => none

def readAt (P : Program) (c : List Value) (off : Nat) (t : TypeId) : Option Value :=
  match isAggP P t with
  | some true => match fsize P t with
    | some n => match decide (off + n ≤ c.length) with
      | true => some (.agg ((c.drop off).take n).toArray)
      | false => none
    | none => none
  | some false => c[off]?
  | none => none

def partOf (P : Program) (t : TypeId) (cs : Array Value) (off : Nat) : Option Value :=
  match isAggP P t with
  | some true => match fsize P t with
    | some n => some (.agg (cs.extract off (off + n)))
    | none => none
  | some false => cs[off]?
  | none => none

def ptrTo (id : Nat) : Value := .pointer (some ⟨id, 0, none⟩)

def zeroOf (P : Program) (t : TypeId) : Option Value :=
  match P.info? t with
  | some i => match i.zero with
    | some v => if flat 3 v then some v else none
    | none => none
  | none => none

/-- Of which sort is a value, and is it nil? -/
def nilKind : Value → Option (Nat × Bool)
  | .pointer a => some (0, a.isNone)
  | .slice a _ _ => some (1, a.isNone)
  | .map a => some (2, a.isNone)
  | .func .. => some (3, false)
  | .nilFunc => some (3, true)
  | .iface .. => some (4, false)
  | .nilIface => some (4, true)
  | _ => none

def nilClass : TypeDesc → Option Nat
  | .pointer _ => some 0
  | .slice _ => some 1
  | .map .. => some 2
  | .func .. => some 3
  | .interface _ => some 4
  | _ => none

/-- Are two values one, one of which is nil? -/
def nilEq (d : TypeDesc) (u v : Value) : Option Bool :=
  match nilClass d, nilKind u, nilKind v with
  | some c, some (c1, n1), some (c2, n2) =>
    if c1 = c ∧ c2 = c ∧ (n1 || n2) = true ∧ ¬ (c = 4 ∧ n1 = true ∧ n2 = true) then some (n1 && n2) else none
  | _, _, _ => none

/-- Which entry of a map has this key; none: it can't be told; some none: there is none. -/
def findAt (P : Program) (kt : TypeId) (k : Value) (es : List (Value × Value)) : Option (Option Nat) :=
  match aspure P (Instr.findKey kt k (es.map fun e => { key := e.1, val := .tuple #[], born := 0 })) with
  | some (some (i, _)) => some (some i)
  | some none => some none
  | none => none

def keyOk (P : Program) (empty : Bool) (kt : TypeId) (k : Value) : Bool :=
  flat 4 k && (aspure P (Instr.checkKey empty 10000 kt k)).isSome

def flatOps (E : Ev) : List Operand → Bool
  | [] => true
  | x :: xs => match E x with
    | some v => flat 4 v && flatOps E xs
    | none => false

/-- The operation on values without addresses: as the model has it. -/
def flatRule (P : Program) (o : Oper) (E : Ev) : Option Eff :=
  match o.op with
  | .select .. => none
  | _ =>
    match flatOps E o.op.operands.toList with
    | false => none
    | true =>
      match aspure P (execOp (fun x => (E x).getD undef) o) with
      | some (.value v) => if flat 4 v then some (.val v) else none
      | _ => none

def lookupAt (P : Program) (t : TypeId) (h : Tr AObj) (r : Nat) (k : Value) (ok : Bool) : Option Value :=
  match P.underlying t with
  | some (.map kt et) =>
    match h.get r with
    | some (.map es) =>
      if keyOk P es.isEmpty kt k then
        match findAt P kt k es with
        | some (some i) => match es[i]? with
          | some e => some (if ok then .tuple #[e.2, .bool true] else e.2)
          | none => none
        | some none => match zeroOf P et with
          | some z => some (if ok then .tuple #[z, .bool false] else z)
          | none => none
        | none => none
      else none
    | _ => none
  | _ => none

def bnd (x : Option Value) (dflt y : Nat) : Option Nat := match x with
  | none => some dflt
  | some (.int _ i) => if 0 ≤ i ∧ i ≤ (y : Int) then some i.toNat else none
  | _ => none

/-- An empty slice; where it lies nobody knows. -/
def lostV : Value := .slice (some ⟨0, 0, some 0⟩) 0 0

def sliceOp (P : Program) (t : TypeId) (b off len cap : Nat) (grow : Bool) (lo hi mx : Option Value) : Option Value :=
  match P.underlying t with
  | some (.slice e) =>
    match fsize P e, bnd mx cap cap with
    | some size, some m =>
      if mx.isSome && hi.isNone then none else
      match bnd hi len m with
      | some h => match bnd lo 0 h with
        | some l =>
          if grow && (mx.isSome || decide (cap < h) || size == 0) then none
          else if grow && decide (cap ≤ l) then (if h - l = 0 then some lostV else none)
          else some (.slice (some ⟨b, if m = l then off else off + l * size, none⟩) (h - l) (m - l))
        | none => none
      | none => none
    | _, _ => none
  | _ => none

def optFlat (E : Ev) : Option Operand → Option (Option Value)
  | none => some none
  | some x => match E x with
    | some v => if flat 1 v then some (some v) else none
    | none => none

def over : List Value → List Value → List Value
  | c, [] => c
  | [], _ => []
  | _ :: c, v :: vs => v :: over c vs
def splice : List Value → Nat → List Value → List Value
  | c, 0, vs => over c vs
  | [], _ + 1, _ => []
  | x :: c, n + 1, vs => x :: splice c n vs

/-- Parts put into cells. -/
def fillL (place : Nat → Option (Nat × Nat)) (n : Nat) (cells : List Value) : List (Nat × Value) → Option (List Value)
  | [] => some cells
  | (i, v) :: rest => match place i with
    | none => none
    | some (off, size) => match Nat.beq v.cells.size size && Nat.ble (off + size) n with
      | true => fillL place n (splice cells off v.cells.toList) rest
      | false => none

/-- Zeros, side by side. -/
def zeros (z : List Value) : Nat → List Value
  | 0 => []
  | n + 1 => z ++ zeros z n

/-! ### Shorter ways for what comes often -/

def hiK : IntKind → Nat
  | .i8 => 127 | .i16 => 32767 | .i32 => 2147483647 | .i64 => 9223372036854775807
  | .u8 => 255 | .u16 => 65535 | .u32 => 4294967295 | .u64 => 18446744073709551615
def loK : IntKind → Nat
  | .i8 => 128 | .i16 => 32768 | .i32 => 2147483648 | .i64 => 9223372036854775808
  | _ => 0
/-- Is it a number of that kind? -/
def fitK (k : IntKind) : Int → Bool
  | .ofNat m => Nat.ble m (hiK k)
  | .negSucc m => Nat.ble (m + 1) (loK k)

def bytesEq : List UInt8 → List UInt8 → Bool
  | [], [] => true
  | a :: l, b :: m => match Nat.beq a.toNat b.toNat with
    | true => bytesEq l m
    | false => false
  | _, _ => false

def fastInt (op : BinOp) (k : IntKind) (a b : Int) : Option Value :=
  match op with
  | .add => match fitK k (a + b) with | true => some (.int k (a + b)) | false => none
  | .sub => match fitK k (a - b) with | true => some (.int k (a - b)) | false => none
  | .eql => some (.bool (decide (a = b)))
  | .neq => some (.bool (!decide (a = b)))
  | .lss => some (.bool (decide (a < b)))
  | .leq => some (.bool (decide (a ≤ b)))
  | .gtr => some (.bool (decide (a > b)))
  | .geq => some (.bool (decide (a ≥ b)))
  | _ => none

def fastStr (op : BinOp) (a b : ByteArray) : Option Value :=
  match op with
  | .eql => some (.bool (bytesEq a.data.toList b.data.toList))
  | .neq => some (.bool (!bytesEq a.data.toList b.data.toList))
  | _ => none

def fastBin (op : BinOp) (u v : Value) : Option Value :=
  match u with
  | .int k a => match v with
    | .int j b => match decide (k = j) with
      | true => fastInt op k a b
      | false => none
    | _ => none
  | .string a => match v with
    | .string b => fastStr op a b
    | _ => none
  | _ => none

def eagUn (P : Program) (o : Oper) (E : Ev) (op : UnOp) (x : Operand) : Option Eff :=
  match op with
  | .not => match E x with
    | some (.bool b) => some (.val (.bool (!b)))
    | _ => flatRule P o E
  | _ => flatRule P o E

def eagConv (P : Program) (o : Oper) (E : Ev) (src dst : TypeId) (x : Operand) : Option Eff :=
  match E x with
  | some (.int _ n) => match P.underlying src, P.underlying dst with
    | some (.int _), some (.int k) => match fitK k n with
      | true => some (.val (.int k n))
      | false => flatRule P o E
    | _, _ => flatRule P o E
  | _ => flatRule P o E

def eagPick (E : Ev) (c a b : Operand) : Option Eff :=
  match E c with
    | some (.bool true) => (E a).map .val
    | some (.bool false) => (E b).map .val
    | _ => none
def eagAlloc (P : Program) (t : TypeId) (id : Nat) : Option Eff :=
  match zeroOf P t with
    | some z => some (.new (ptrTo id) (.cells z.cells.toList t false))
    | none => none
def eagBox (E : Ev) (t : TypeId) (x : Operand) (id : Nat) : Option Eff :=
  match E x with
    | some v => some (.new (ptrTo id) (.cells v.cells.toList t false))
    | none => none
def eagBuild (P : Program) (E : Ev) (t : TypeId) (parts : Array (Nat × Operand)) : Option Eff :=
    match zeroOf P t, evParts E parts.toList, P.underlying t with
    | some z, some ps, some (.struct fields) =>
      match aspure P (fields.mapM fun f => do pure (f.offset, ← sizeOf f.type)) with
      | some places => match fillL (places[·]?) z.cells.size z.cells.toList ps with
        | some cells => some (.val (.agg cells.toArray))
        | none => none
      | none => none
    | some z, some ps, some (.array _ elem) =>
      match fsize P elem with
      | some size => match fillL (fun i => some (i * size, size)) z.cells.size z.cells.toList ps with
        | some cells => some (.val (.agg cells.toArray))
        | none => none
      | none => none
    | _, _, _ => none
def eagBuildSlice (P : Program) (E : Ev) (t : TypeId) (len : Nat) (parts : Array (Nat × Operand)) (id : Nat) : Option Eff :=
    match P.underlying t, evParts E parts.toList with
    | some (.slice elem), some ps =>
      match fsize P elem, zeroOf P elem with
      | some size, some z =>
        if len * size > 2 ^ 24 then none else
        if len * size = 0 then none else
        if z.cells.size ≠ size then none else
        match fillL (fun i => some (i * size, size)) (len * size) (zeros z.cells.toList len) ps with
        | some cells => some (.new (.slice (some ⟨id, 0, none⟩) len len) (.cells cells elem false))
        | none => none
      | _, _ => none
    | _, _ => none
def eagLoad (P : Program) (E : Ev) (h : Tr AObj) (t : TypeId) (a : Operand) : Option Eff :=
  match E a with
    | some (.pointer (some ⟨b, off, none⟩)) => match h.get b with
      | some (.cells c _ _) | some (.glob c _) => (readAt P c off t).map .val
      | _ => none
    | _ => none
def eagNil (E : Ev) (x : Operand) : Option Eff :=
  match E x with
    | some (.pointer (some a)) => some (.val (.pointer (some a)))
    | some (.func (.func f) a b) => some (.val (.func (.func f) a b))
    | some (.iface t v) => some (.val (.iface t v))
    | _ => none
def eagFieldAddr (P : Program) (E : Ev) (s : TypeId) (x : Operand) (i : Nat) : Option Eff :=
  match P.underlying s, E x with
    | some (.struct fields), some (.pointer (some ⟨b, off, none⟩)) => match fields[i]? with
      | some f => match fsize P f.type with
        | some (_ + 1) => some (.val (.pointer (some ⟨b, off + f.offset, none⟩)))
        | _ => none
      | none => none
    | _, _ => none
def eagField (P : Program) (E : Ev) (t : TypeId) (x : Operand) (i : Nat) : Option Eff :=
  match P.underlying t, E x with
    | some (.struct fields), some (.agg cs) => match fields[i]? with
      | some f => (partOf P f.type cs f.offset).map .val
      | none => none
    | _, _ => none
def eagIndexAddr (P : Program) (E : Ev) (t : TypeId) (x ix : Operand) : Option Eff :=
  match P.underlying t, E x, E ix with
    | some (.slice e), some (.slice (some ⟨b, off, none⟩) len _), some (.int _ i) =>
      if 0 ≤ i ∧ i < len then (fsize P e).map fun n => .val (.pointer (some ⟨b, off + i.toNat * n, none⟩)) else none
    | some (.array len e), some (.pointer (some ⟨b, off, none⟩)), some (.int _ i) =>
      if 0 ≤ i ∧ i < len then (fsize P e).map fun n => .val (.pointer (some ⟨b, off + i.toNat * n, none⟩)) else none
    | _, _, _ => none
def eagIndex (P : Program) (o : Oper) (E : Ev) (t : TypeId) (x ix : Operand) : Option Eff :=
  match P.underlying t, E x, E ix with
    | some (.array len e), some (.agg cs), some (.int _ i) =>
      if 0 ≤ i ∧ i < len then
        match fsize P e with
        | some n => (partOf P e cs (i.toNat * n)).map .val
        | none => none
      else none
    | _, _, _ => flatRule P o E
def eagIface (P : Program) (E : Ev) (t : TypeId) (x : Operand) : Option Eff :=
  match P.underlying t, E x with
    | some (.interface _), _ => none
    | some _, some v => some (.val (.iface t v))
    | _, _ => none
def eagFunc (E : Ev) (fn : Fn) (first captured : Array Operand) : Option Eff :=
    match evAll E first.toList, evAll E captured.toList with
    | some a, some b => if fnOk fn then some (.val (.func fn a.toArray b.toArray)) else none
    | _, _ => none
def eagMakeMap (P : Program) (E : Ev) (t : TypeId) (r : Option Operand) (id : Nat) : Option Eff :=
  match r with
  | none => some (.new (.map (some id)) (.map []))
  | some x => match P.underlying t, E x with
    | some (.map ..), some (.int _ _) => some (.new (.map (some id)) (.map []))
    | _, _ => none
def eagMakeSlice (P : Program) (E : Ev) (t : TypeId) (l c : Operand) (id : Nat) : Option Eff :=
  match P.underlying t, E l, E c with
    | some (.slice elem), some (.int _ l), some (.int _ c) =>
      match P.info? elem, zeroOf P elem with
      | some info, some z =>
        if 0 ≤ l ∧ l ≤ c ∧ c < 2 ^ 40 ∧ info.bytes * c ≤ 2 ^ 48 ∧ 0 < c.toNat * info.size ∧ z.cells.size = info.size then
          some (.new (.slice (some ⟨id, 0, none⟩) l.toNat c.toNat) (.cells (zeros z.cells.toList c.toNat) elem false))
        else none
      | _, _ => none
    | _, _, _ => none
def eagSlice (P : Program) (o : Oper) (E : Ev) (h : Tr AObj) (t : TypeId) (x : Operand) (lo hi mx : Option Operand) : Option Eff :=
  match E x with
    | some (.slice (some ⟨b, off, none⟩) len cap) =>
      match h.get b, optFlat E lo, optFlat E hi, optFlat E mx with
      | some (.cells _ _ g), some lo, some hi, some mx => (sliceOp P t b off len cap g lo hi mx).map .val
      | some (.glob _ _), some lo, some hi, some mx => (sliceOp P t b off len cap false lo hi mx).map .val
      | _, _, _, _ => none
    | _ => flatRule P o E
def eagLookup (P : Program) (o : Oper) (E : Ev) (h : Tr AObj) (t : TypeId) (x ix : Operand) (ok : Bool) : Option Eff :=
  match E x, E ix with
    | some (.map (some r)), some k => (lookupAt P t h r k ok).map .val
    | _, _ => flatRule P o E
def eagAssert (P : Program) (o : Oper) (E : Ev) (x : Operand) (asserted : TypeId) (ok : Bool) : Option Eff :=
  match E x, P.underlying asserted with
    | some (.iface _ v), some (.interface _) => if ok then none else (some (.val v)).filter fun _ => false
    | some (.iface t v), some _ =>
      if t = asserted then some (.val (if ok then .tuple #[v, .bool true] else v))
      else if ok then (zeroOf P asserted).map fun z => .val (.tuple #[z, .bool false])
      else none
    | _, _ => flatRule P o E
def eagExtract (E : Ev) (x : Operand) (i : Nat) : Option Eff :=
  match E x with
    | some (.tuple vs) => vs[i]?.map .val
    | _ => none
def eagBin0 (P : Program) (o : Oper) (E : Ev) (op : BinOp) (t : TypeId) (x y : Operand) : Option Eff :=
  match op with
  | .eql => match P.underlying t, E x, E y with
    | some d, some u, some v => match nilEq d u v with
      | some r => some (.val (.bool r))
      | none => flatRule P o E
    | _, _, _ => none
  | .neq => match P.underlying t, E x, E y with
    | some d, some u, some v => match nilEq d u v with
      | some r => some (.val (.bool (!r)))
      | none => flatRule P o E
    | _, _, _ => none
  | _ => flatRule P o E
/-- What is known of operators on values that only stand for some (.chan (some k)). -/
class Hints where
  hint : BinOp → TypeId → Value → Value → Option Value
variable [Hints]
def eagBin (P : Program) (o : Oper) (E : Ev) (op : BinOp) (t : TypeId) (x y : Operand) : Option Eff :=
  match E x with
  | some u => match E y with
    | some v => match fastBin op u v with
      | some r => some (.val r)
      | none => match Hints.hint op t u v with
        | some r => some (.val r)
        | none => eagBin0 P o E op t x y
    | none => none
  | none => none
def eagLen (P : Program) (o : Oper) (E : Ev) (h : Tr AObj) (args : Array Operand) (argTypes : Array TypeId) : Option Eff :=
  match argTypes[0]?, args[0]? with
    | some t, some x => match P.underlying t, E x with
      | some (.slice _), some (.slice (some _) n _) => some (.val (goInt n))
      | some (.map ..), some (.map (some r)) => match h.get r with
        | some (.map es) => some (.val (goInt es.length))
        | _ => none
      | _, _ => flatRule P o E
    | _, _ => none
def eagCall (P : Program) (o : Oper) (E : Ev) (h : Tr AObj) (c : Call) : Option Eff :=
  match c.callee with
  | .builtin b => match b with
    | .len => eagLen P o E h c.args c.argTypes
    | _ => flatRule P o E
  | _ => flatRule P o E

def eag (P : Program) (o : Oper) (E : Ev) (h : Tr AObj) (id : Nat) : Option Eff :=
  match o.op with
  | .move x | .assign x => (E x).map .val
  | .pick c a b => eagPick E c a b
  | .alloc t => eagAlloc P t id
  | .box t x => eagBox E t x id
  | .build t parts => eagBuild P E t parts
  | .buildSlice t len parts => eagBuildSlice P E t len parts id
  | .load t a => eagLoad P E h t a
  | .nilCheck x => eagNil E x
  | .fieldAddr s x i => eagFieldAddr P E s x i
  | .field t x i => eagField P E t x i
  | .indexAddr t x ix => eagIndexAddr P E t x ix
  | .index t x ix => eagIndex P o E t x ix
  | .unOp op _ x => eagUn P o E op x
  | .convert src dst x => eagConv P o E src dst x
  | .makeInterface t x => eagIface P E t x
  | .makeFunc fn first captured => eagFunc E fn first captured
  | .makeMap t r => eagMakeMap P E t r id
  | .makeSlice t l c => eagMakeSlice P E t l c id
  | .slice t x lo hi mx => eagSlice P o E h t x lo hi mx
  | .lookup t x ix ok => eagLookup P o E h t x ix ok
  | .typeAssert x _ asserted ok => eagAssert P o E x asserted ok
  | .extract x i => eagExtract E x i
  | .binOp op t x y _ => eagBin P o E op t x y
  | .call c => eagCall P o E h c
  | _ => flatRule P o E

def enters (P : Program) (f : FuncId) : Bool :=
  match P.funcs[f]? with
  | some fn => fn.body.isSome && !(fn.name == "runtime.NumGoroutine")
  | none => false

/-- What is called. -/
def target0 (P : Program) (E : Ev) (c : Call) : Option (FuncId × List Value) :=
  match evAll E c.args.toList with
  | none => none
  | some args =>
    match c.callee with
    | .value f => match E f with
      | some (.func (.func f) first captured) => some (f, first.toList ++ args ++ captured.toList)
      | _ => none
    | .invoke r name => match E r with
      | some (.iface t v) => match P.info? t, P.underlying t with
        | some info, some d => match info.methods.find? (·.name == name) with
          | some m => match m.path.toList, m.func with
            | [], some (f, true) => match d with
              | .pointer _ => some (f, v :: args)
              | _ => none
            | [], some (f, false) => match d with
              | .pointer _ => none
              | _ => some (f, v :: args)
            | _, _ => none
          | none => none
        | _, _ => none
      | _ => none
    | .builtin _ => none

def target (P : Program) (E : Ev) (c : Call) : Option (FuncId × List Value) :=
  match target0 P E c with
  | some (f, args) => if enters P f then some (f, args) else none
  | none => none

def listPut (c : List Value) (off : Nat) (vs : List Value) : Option (List Value) :=
  match Nat.ble (off + vs.length) c.length with
  | true => match vs.all (·.oneCell') with
    | true => some (splice c off vs)
    | false => none
  | false => none

def setB (h : H) (b : Nat) (o : AObj) : H := { h with heap := h.heap.set 60 b o }

def storeAt (P : Program) (t : TypeId) (a v : Value) (h : H) : Option H :=
  match a with
  | .pointer (some ⟨b, off, none⟩) => match h.heap.get b, fsize P t with
    | some (.cells c e g), some n =>
      if v.cells.size = n ∧ b < 2 ^ 50 then
        match listPut c off v.cells.toList with
        | some c' => some (setB h b (.cells c' e g))
        | none => none
      else none
    | _, _ => none
  | _ => none

def mapPut (P : Program) (t : TypeId) (m k v : Value) (h : H) : Option H :=
  match P.underlying t, m with
  | some (.map kt _), .map (some r) => match h.heap.get r with
    | some (.map es) =>
      if keyOk P false kt k && decide (r < 2 ^ 50) then
        match findAt P kt k es with
        | some (some i) => match es[i]? with
          | some e => if Instr.sameBits 10000 e.1 k then some (setB h r (.map (es.set i (k, v)))) else none
          | none => none
        | some none => some (setB h r (.map (es ++ [(k, v)])))
        | none => none
      else none
    | _ => none
  | _, _ => none

def mapDel (P : Program) (t : TypeId) (m k : Value) (h : H) : Option H :=
  match P.underlying t, m with
  | some (.map kt _), .map (some r) => match h.heap.get r with
    | some (.map es) =>
      if keyOk P es.isEmpty kt k && decide (r < 2 ^ 50) then
        match findAt P kt k es with
        | some (some i) => some (setB h r (.map (es.eraseIdx i)))
        | some none => some h
        | none => none
      else none
    | _ => none
  | _, _ => none

def isIntD : TypeDesc → Bool
  | .int _ => true
  | _ => false

/-- The cells that an append takes from what is appended. -/
def srcCells (x : Value) (size : Nat) (h : Tr AObj) : Option (Nat × List Value) :=
  match x with
  | .slice none n _ => if n = 0 then some (0, []) else none
  | .slice (some ⟨b, off, none⟩) n _ => match h.get b with
    | some (.cells c _ _) | some (.glob c _) => if off + n * size ≤ c.length then some (n, (c.drop off).take (n * size)) else none
    | _ => none
  | .string s => if size = 1 then some (s.size, (s.data.map fun b => Value.int .u8 b.toNat).toList) else none
  | _ => none

def appendAt (P : Program) (argTypes : Array TypeId) (s x : Value) (h : H) : Option (Value × H) :=
  match argTypes[0]?, argTypes[1]? with
  | some st, some xt =>
    match P.underlying st, P.underlying xt with
    | some (.slice elem), some xd =>
      match P.info? elem, zeroOf P elem, isIntD xd with
      | some info, some z, false =>
        let size := info.size
        match srcCells x size h.heap with
        | some (n, new) =>
          if size = 0 ∨ info.bytes = 0 ∨ z.cells.size ≠ size then none else
          match s with
          | .slice none len cap =>
            if len ≠ 0 ∨ cap ≠ 0 then none else
            if n = 0 then some (s, h) else
            if h.heap.get h.next |>.isSome then none else
            if (2 * n + 1000) * info.bytes ≤ 2 ^ 48 ∧ h.next < 2 ^ 50 then
              some (.slice (some ⟨h.next, 0, none⟩) n n, { heap := h.heap.set 60 h.next (.cells new elem true), next := h.next + 1 })
            else none
          | .slice (some ⟨b, off, none⟩) len cap =>
            let need := len + n
            match h.heap.get b with
            | some (.cells c e g) =>
              if e ≠ elem ∨ off + len * size > c.length then none else
              if need ≤ cap then
                if b < 2 ^ 50 then
                  match listPut c (off + len * size) new with
                  | some c' => some (.slice (some ⟨b, off, none⟩) need cap, setB h b (.cells c' e g))
                  | none => none
                else none
              else if h.heap.get h.next |>.isSome then none else
              if (2 * need + 1000) * info.bytes ≤ 2 ^ 48 ∧ h.next < 2 ^ 50 ∧ b < 2 ^ 50 ∧ new.all (·.oneCell') then
                let N := AObj.cells ((c.drop off).take (len * size) ++ new) elem true
                if g then
                  if off ≠ 0 then none else
                  some (.slice (some ⟨h.next, 0, none⟩) need need, { heap := (h.heap.set 60 b .gone).set 60 h.next N, next := h.next + 1 })
                else some (.slice (some ⟨h.next, 0, none⟩) need need, { heap := h.heap.set 60 h.next N, next := h.next + 1 })
              else none
            | _ => none
          | _ => none
        | none => none
      | _, _, _ => none
    | _, _ => none
  | _, _ => none

abbrev CallF := FuncId → List Value → H → Option (Value × H)

/-- An operation that may touch memory, or calls. -/
def loud (P : Program) (callF : CallF) (o : Oper) (E : Ev) (h : H) : Option (Value × H) :=
  match o.op with
  | .store t a x => match E a, E x with
    | some a, some v => (storeAt P t a v h).map fun h => (undef, h)
    | _, _ => none
  | .mapUpdate t m k x | .insert t m k x => match E m, E k, E x with
    | some m, some k, some v => (mapPut P t m k v h).map fun h => (undef, h)
    | _, _, _ => none
  | .call c => match c.callee with
    | .builtin .append => match c.args.toList with
      | [s, x] => match E s, E x with
        | some s, some x => appendAt P c.argTypes s x h
        | _, _ => none
      | _ => none
    | .builtin .delete => match c.args.toList, c.argTypes[0]? with
      | [m, k], some t => match E m, E k with
        | some m, some k => (mapDel P t m k h).map fun h => (.tuple #[], h)
        | _, _ => none
      | _, _ => none
    | _ => match target P E c with
      | some (f, args) => callF f args h
      | none => none
  | _ => none

def isLoud : Op → Bool
  | .store .. | .mapUpdate .. | .insert .. => true
  | .call { callee := .builtin .append, .. } | .call { callee := .builtin .delete, .. } => true
  | .call { callee := .builtin _, .. } => false
  | .call _ => true
  | _ => false

def putT (nt : Nat) (T : Tr Value) (dst : Option Tmp) (v : Value) : Option (Tr Value) :=
  match dst with
  | none => some T
  | some d => if d < nt then some (T.set 60 d v) else none

/-- What a guard says. -/
def wantedT (T : Tr Value) (ops : Array Oper) (o : Oper) : Option Bool :=
  match o.guard with
  | none => some true
  | some (j, want) => match ops[j]? with
    | some g => match g.dst with
      | some d => match (T.get d).getD undef with
        | .bool b => some (b == want)
        | .tuple _ => some false
        | _ => none
      | none => none
    | none => none

/-- One operation, in the order of the text. -/
def one (P : Program) (callF : CallF) (nt : Nat) (ops : Array Oper) (o : Oper) (T : Tr Value) (h : H) : Option (Tr Value × H) :=
  match wantedT T ops o with
  | some false => (putT nt T o.dst undef).map fun T => (T, h)
  | some true =>
    if isLoud o.op then
      match loud P callF o (evH T h.heap) h with
      | some (v, h') => (putT nt T o.dst v).map fun T => (T, h')
      | none => none
    else
      match eag P o (evH T h.heap) h.heap h.next with
      | some (.val v) => (putT nt T o.dst v).map fun T => (T, h)
      | some (.new v ob) =>
        if (h.heap.get h.next).isNone ∧ h.next < 2 ^ 50 then
          (putT nt T o.dst v).map fun T => (T, { heap := h.heap.set 60 h.next ob, next := h.next + 1 })
        else none
      | none => none
  | none => none

def seqOps (P : Program) (callF : CallF) (nt : Nat) (ops : Array Oper) : List Oper → Tr Value → H → Option (Tr Value × H)
  | [], T, h => some (T, h)
  | o :: os, T, h => match one P callF nt ops o T h with
    | some (T, h) => seqOps P callF nt ops os T h
    | none => none

inductive Ex where
  | normal
  | exit (id : Nat)
  | ret

def argsT : List Value → Nat → Tr Value → Tr Value
  | [], _, T => T
  | v :: vs, i, T => argsT vs (i + 1) (T.set 60 i v)

def resOf (P : Program) (T : Tr Value) (h : Tr AObj) : ResultVar → Option Value
  | .tmp t => some ((T.get t).getD undef)
  | .cell a t => match (T.get a).getD undef with
    | .pointer (some ⟨b, off, none⟩) => match h.get b with
      | some (.cells c _ _) => readAt P c off t
      | _ => none
    | _ => none

def resAll (P : Program) (T : Tr Value) (h : Tr AObj) : List ResultVar → Option (List Value)
  | [] => some []
  | r :: rs => match resOf P T h r with
    | some v => match resAll P T h rs with | some vs => some (v :: vs) | none => none
    | none => none

def resV : List Value → Value
  | [v] => v
  | vs => .tuple vs.toArray

/-- A call: what is known of the function (O), or its body is run on a frame of its own. -/
def callBy (P : Program) (O : CallF) (run : Nat → Code → Tr Value → H → Option (Ex × Tr Value × H)) : CallF := fun f args h =>
  match O f args h with
  | some r => some r
  | none => match P.funcs[f]? with
    | some fn => match fn.body with
      | some c =>
        if args.length ≤ fn.ntmps ∧ fn.ntmps < 2 ^ 50 then
          match run fn.ntmps c (argsT args 0 .nil) h with
          | some (.exit _, _, _) => none
          | some (_, T, h') => match resAll P T h'.heap fn.results.toList with
            | some vs => some (resV vs, h')
            | none => none
          | none => none
        else none
      | none => none
    | none => none

/-! ### Regions that draw their order -/

def all2 (f : Value → Value → Bool) : List Value → List Value → Bool
  | [], [] => true
  | x :: xs, y :: ys => f x y && all2 f xs ys
  | _, _ => false

/-- Are two values one? (It need not find it.) -/
def eqv : Nat → Value → Value → Bool
  | _, .bool a, .bool b => a == b
  | _, .int j a, .int k b => decide (j = k) && decide (a = b)
  | _, .string a, .string b => decide (a = b)
  | _, .pointer a, .pointer b => decide (a = b)
  | _, .slice a l c, .slice b m d => decide (a = b) && decide (l = m) && decide (c = d)
  | _, .map a, .map b => decide (a = b)
  | _, .nilFunc, .nilFunc => true
  | _, .nilIface, .nilIface => true
  | n + 1, .iface t u, .iface s v => decide (t = s) && eqv n u v
  | n + 1, .func f a b, .func g c d => decide (f = g) && all2 (eqv n) a.toList c.toList && all2 (eqv n) b.toList d.toList
  | n + 1, .agg a, .agg b => all2 (eqv n) a.toList b.toList
  | n + 1, .tuple a, .tuple b => all2 (eqv n) a.toList b.toList
  | _, _, _ => false

/-- The operations that one has to wait for. -/
def deps (o : Oper) : List Nat := (o.after.toList.filter (Region.binds .any)).map (·.on)

def looks (ops : Array Oper) (o : Oper) : List Tmp :=
  (o.op.operands.toList.filterMap fun | .tmp t => some t | _ => none) ++
  (match o.guard with
   | some (g, _) => ((ops[g]?).bind (·.dst)).toList
   | none => [])

def hasGlobal (o : Op) : Bool := o.operands.toList.any fun | .global _ => true | _ => false

/-- Does a quiet operation look at memory? -/
def heapful (o : Op) : Bool :=
  hasGlobal o || match o with
  | .load .. | .lookup .. | .slice .. => true
  | .call _ => true
  | _ => false

abbrev Sched := List (Nat × Option (List Nat))

/-- What is settled once an operation is carried out. -/
def settle (ops : Array Oper) (Z : List Nat) (j : Nat) : List Nat :=
  (List.range ops.size).reverse.foldl (fun Z i => if Z.contains i then match ops[i]? with
    | some o => deps o ++ Z
    | none => Z else Z) (j :: Z)

/-- An operation that is carried out just when its turn comes: it may touch memory, or it writes a temporary that another one has read before. -/
def sync (ops : Array Oper) (i : Nat) : Bool := match ops[i]? with
  | some o => isLoud o.op || match o.dst with
    | some d => (List.range ops.size).any fun j => match ops[j]? with
      | some q => (looks ops q).contains d && !(deps q).contains i
      | none => false
    | none => false
  | none => false

def noneOf (ops : Array Oper) (Y : List Nat) (late : Bool) : List Nat → Option Nat
  | [] => none
  | i :: is => match ops[i]? with
    | some o => if !Y.contains i && (deps o).all Y.contains && (sync ops i == late) then some i else noneOf ops Y late is
    | none => noneOf ops Y late is

def mkSched (ops : Array Oper) : Nat → List Nat → List Nat → Sched
  | 0, _, _ => []
  | f + 1, Y, Z => match noneOf ops Y false (List.range ops.size) with
    | some i => (i, none) :: mkSched ops f (i :: Y) Z
    | none => match noneOf ops Y true (List.range ops.size) with
      | some j =>
        let Z := settle ops Z j
        (j, some (Y.filter fun k => !Z.contains k && (match ops[k]? with | some o => heapful o.op | none => false))) :: mkSched ops f (j :: Y) Z
      | none => []

def chkSched (ops : Array Oper) : Sched → List Nat → List Nat → Bool
  | [], Y, _ => (List.range ops.size).all Y.contains
  | (i, none) :: s, Y, Z => match ops[i]? with
    | some o => !Y.contains i && !sync ops i && (deps o).all Y.contains && chkSched ops s (i :: Y) Z
    | none => false
  | (j, some rc) :: s, Y, Z => match ops[j]? with
    | some o => !Y.contains j && sync ops j && (deps o).all Y.contains &&
      (List.range ops.size).all (fun k => Y.contains k || k == j || (match ops[k]? with | some o => !(deps o).all Y.contains | none => true)) &&
      Y.all (fun k => (settle ops Z j).contains k || rc.contains k || (match ops[k]? with | some o => !heapful o.op | none => true)) &&
      chkSched ops s (j :: Y) (settle ops Z j)
    | none => false

/-- Each temporary is written once; whoever reads it does so behind that, or ahead of it in any order. -/
def tmpsOk (ops : Array Oper) : Bool :=
  (List.range ops.size).all fun i => match ops[i]? with
    | some o => match o.dst with
      | some d => (List.range ops.size).all fun j => match ops[j]? with
        | some q => (i == j || q.dst != some d) && (!(looks ops q).contains d || ((deps q).contains i && i != j) || (sync ops i && (i == j || (settle ops [] i).contains j)))
        | none => true
      | none => true
    | none => true

def drawOk (ops : Array Oper) (s : Sched) : Bool := chkSched ops s [] [] && tmpsOk ops && ops.all fun o => match o.op with | .select .. => false | _ => true

/-- A quiet operation that was carried out answers the same still. -/
def stable (P : Program) (ops : Array Oper) (T : Tr Value) (h : H) (k : Nat) : Bool :=
  match ops[k]? with
  | some o => match wantedT T ops o with
    | some false => true
    | some true => match eag P o (evH T h.heap) h.heap 0, o.dst with
      | some (.val v), some d => eqv 8 v ((T.get d).getD undef)
      | some (.val _), none => true
      | _, _ => false
    | none => false
  | none => false

def runSched (P : Program) (callF : CallF) (nt : Nat) (ops : Array Oper) : Sched → Tr Value → H → Option (Tr Value × H)
  | [], T, h => some (T, h)
  | (i, rc) :: s, T, h => match ops[i]? with
    | some o => match one P callF nt ops o T h with
      | some (T', h') => match (match rc with | some l => l.all (stable P ops T' h') | none => true) with
        | true => runSched P callF nt ops s T' h'
        | false => none
      | none => none
    | none => none

def region (P : Program) (callF : CallF) (nt : Nat) (ops : Array Oper) (draw : Bool) (T : Tr Value) (h : H) : Option (Tr Value × H) :=
  match draw with
  | false => seqOps P callF nt ops ops.toList T h
  | true =>
    match drawOk ops (mkSched ops ops.size [] []) with
    | true => runSched P callF nt ops (mkSched ops ops.size [] []) T h
    | false => none

def run (P : Program) (O : CallF) : Nat → Nat → Code → Tr Value → H → Option (Ex × Tr Value × H)
  | 0, _, _, _, _ => none
  | f + 1, nt, c, T, h => match c with
    | .skip => some (.normal, T, h)
    | .label _ => some (.normal, T, h)
    | .region _ ops draw => match region P (callBy P O (run P O f)) nt ops draw T h with
      | some (T, h) => some (.normal, T, h)
      | none => none
    | .seq a b => match run P O f nt a T h with
      | some (.normal, T, h) => run P O f nt b T h
      | r => r
    | .cond c x y => match evH T h.heap c with
      | some (.bool true) => run P O f nt x T h
      | some (.bool false) => run P O f nt y T h
      | _ => none
    | .block id c => match run P O f nt c T h with
      | some (.exit i, T, h) => if i = id then some (.normal, T, h) else some (.exit i, T, h)
      | r => r
    | .loop c => match run P O f nt c T h with
      | some (.normal, T, h) => run P O f nt (.loop c) T h
      | r => r
    | .exit id => some (.exit id, T, h)
    | .scope c => run P O f nt c T h
    | .ret => some (.ret, T, h)
    | _ => none

def call (P : Program) (O : CallF) (f : Nat) : CallF := callBy P O (run P O f)

/-- Nothing is known. -/
abbrev noHints : Hints := ⟨fun _ _ _ _ => none⟩
/-- Nothing is known. -/
def noO : CallF := fun _ _ _ => none
end Go.Proofs.YtjiekjfbllinbaaDoor.Rx
