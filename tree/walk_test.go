package tree_test

import (
	"reflect"
	"runtime/debug"
	"slices"
	"testing"

	"metronome/api"
	"metronome/tree"
)

// dice are numbers that look thrown, the same in each run.
type dice uint64

func (d *dice) throw(n int) int {
	*d = *d*6364136223846793005 + 1442695040888963407
	return int(*d>>33) % n
}

func (d *dice) name() string { return string("abcdefgh"[d.throw(8)]) }

// expr is some well-formed expression, at most so deep.
func (d *dice) expr(deep int) api.Expr {
	if deep <= 1 {
		return []api.Expr{num(int32(d.throw(9)) - 4), {Kind: api.EBool, N: 1}, {Kind: api.ECtor, Name: "C"}, v(d.name()), last(d.name())}[d.throw(5)]
	}
	a, b, c := d.expr(deep-1-d.throw(deep)), d.expr(deep-1), d.expr(deep-1-d.throw(deep))
	return []api.Expr{
		{Kind: api.EUn, Op: api.Neg, Kids: []api.Expr{a}}, kind(api.EPre, b), when(b, "C", d.name()), when(c, "D", d.name()),
		add(b, a), add(c, b), kind(api.EFby, a, b), kind(api.EFby, b, c), kind(api.EArrow, c, b),
		kind(api.EIf, a, b, c), merge(d.name(), a, b, c), merge(d.name(), b),
	}[d.throw(12)]
}

// block is some well-formed block, at most so deep.
func (d *dice) block(deep int) api.Block {
	var b api.Block
	for range d.throw(3) {
		b.Vars = append(b.Vars, api.Var{Name: d.name(), Last: d.throw(2) == 0, First: d.expr(1 + d.throw(3))})
	}
	for range d.throw(4) {
		b.Eqs = append(b.Eqs, d.equation(deep))
	}
	return b
}

func (d *dice) equation(deep int) api.Equation {
	q := api.Equation{Kind: byte(1 + d.throw(5)), E: d.expr(1 + d.throw(3))}
	if deep <= 1 {
		q.Kind = byte(1 + d.throw(2))
	}
	switch q.Kind {
	case api.QDef:
		q.Lhs = []string{d.name()}
	case api.QCall:
		q.Lhs, q.Name, q.Has = []string{d.name(), d.name()}, d.name(), d.throw(2) == 0
		q.Args = []api.Expr{d.expr(1 + d.throw(3)), d.expr(1)}
	case api.QReset:
		q.Arms = []api.Arm{{B: d.block(deep - 1)}}
	default:
		q.Arms = []api.Arm{{Name: "A", B: d.block(deep - 1)}, {Name: "B", B: d.block(deep - 1)}}
	}
	if q.Kind == api.QAuto {
		q.E = api.Expr{}
		q.Arms[0].Unless = []api.Trans{{E: d.expr(1 + d.throw(5)), To: "B"}}
		q.Arms[1].Until = []api.Trans{{E: d.expr(2), To: "A"}, {E: d.expr(1), To: "B"}}
	}
	return q
}

// What follows are the document's definitions, word for word, as functions that call themselves.

func size(e api.Expr) int {
	n := 1
	for _, k := range e.Kids {
		n += size(k)
	}
	return n
}

func depth(e api.Expr) int {
	n := 0
	for _, k := range e.Kids {
		n = max(n, depth(k))
	}
	return 1 + n
}

func once(l []string) []string {
	var r []string
	for _, name := range l {
		if !slices.Contains(r, name) {
			r = append(r, name)
		}
	}
	return r
}

func reads(e api.Expr, later bool) []string {
	var l []string
	if e.Kind == api.EVar || e.Kind == api.EMerge {
		l = append(l, e.Name)
	}
	for i, k := range e.Kids {
		if later || e.Kind != api.EPre && (e.Kind != api.EFby || i != 1) {
			l = append(l, reads(k, later)...)
		}
	}
	if e.Kind == api.EWhen {
		l = append(l, e.Name)
	}
	return l
}

func lasts(e api.Expr) []string {
	var l []string
	if e.Kind == api.ELast {
		l = append(l, e.Name)
	}
	for _, k := range e.Kids {
		l = append(l, lasts(k)...)
	}
	return l
}

func stateless(e api.Expr) bool {
	return e.Kind != api.EFby && e.Kind != api.EPre && e.Kind != api.EArrow &&
		!slices.ContainsFunc(e.Kids, func(k api.Expr) bool { return !stateless(k) })
}

// own are the expressions of a block itself and of the ways out of its arms.
func own(b api.Block) []api.Expr {
	var l []api.Expr
	for _, x := range b.Vars {
		if x.Last {
			l = append(l, x.First)
		}
	}
	for _, q := range b.Eqs {
		if q.Kind == api.QCall {
			l = append(l, q.Args...)
		}
		if q.Kind == api.QDef || q.Kind == api.QSwitch || q.Kind == api.QReset || q.Kind == api.QCall && q.Has {
			l = append(l, q.E)
		}
		for _, a := range q.Arms {
			for _, w := range slices.Concat(a.Unless, a.Until) {
				l = append(l, w.E)
			}
		}
	}
	return l
}

func blockSize(b api.Block) int {
	n := len(b.Vars) + len(b.Eqs)
	for _, e := range own(b) {
		n += size(e)
	}
	for _, q := range b.Eqs {
		for _, a := range q.Arms {
			n += 1 + len(a.Unless) + len(a.Until) + blockSize(a.B)
		}
	}
	return n
}

func blockDepth(b api.Block) int {
	n := 0
	for _, e := range own(b) {
		n = max(n, depth(e))
	}
	for _, q := range b.Eqs {
		for _, a := range q.Arms {
			n = max(n, blockDepth(a.B))
		}
	}
	return 1 + n
}

func defines(q api.Equation) []string {
	l := slices.Clone(q.Lhs)
	for _, a := range q.Arms {
		l = append(l, blockDefines(a.B)...)
	}
	return once(l)
}

func blockDefines(b api.Block) []string {
	var l []string
	for _, q := range b.Eqs {
		l = append(l, defines(q)...)
	}
	return once(slices.DeleteFunc(l, func(name string) bool {
		return slices.ContainsFunc(b.Vars, func(x api.Var) bool { return x.Name == name })
	}))
}

func calls(b api.Block) []string {
	var l []string
	for _, q := range b.Eqs {
		if q.Kind == api.QCall {
			l = append(l, q.Name)
		}
		for _, a := range q.Arms {
			l = append(l, calls(a.B)...)
		}
	}
	return once(l)
}

func TestSomeExpressions(t *testing.T) { // P4.1, P4.2, P2
	d := dice(1)
	before := d.expr(1)
	for range 20000 {
		again := d
		e := d.expr(1 + d.throw(6))
		if tree.Size(e) != size(e) || tree.Depth(e) != depth(e) || tree.Stateless(e) != stateless(e) {
			t.Fatalf("%+v: %d, %d, %t", e, tree.Size(e), tree.Depth(e), tree.Stateless(e))
		}
		list(t, "Reads", tree.Reads(e), once(reads(e, false))...)
		list(t, "All", tree.All(e), once(reads(e, true))...)
		list(t, "Lasts", tree.Lasts(e), once(lasts(e))...)
		same := again.expr(1 + again.throw(6))
		if !tree.SameExpr(e, same) || tree.SameExpr(e, before) != reflect.DeepEqual(e, before) {
			t.Fatalf("%+v", e)
		}
		if !reflect.DeepEqual(e, same) {
			t.Fatal("changed", e)
		}
		before = e
	}
}

func TestSomeBlocks(t *testing.T) { // P4.1, P4.3, P2
	d := dice(2)
	before := d.block(1)
	for range 20000 {
		again := d
		b := d.block(1 + d.throw(4))
		if tree.BlockSize(b) != blockSize(b) || tree.BlockDepth(b) != blockDepth(b) {
			t.Fatalf("%+v: %d, %d", b, tree.BlockSize(b), tree.BlockDepth(b))
		}
		list(t, "BlockDefines", tree.BlockDefines(b), blockDefines(b)...)
		list(t, "Calls", tree.Calls(b), calls(b)...)
		for _, q := range b.Eqs {
			list(t, "Defines", tree.Defines(q), defines(q)...)
		}
		same := again.block(1 + again.throw(4))
		if !tree.SameBlock(b, same) || tree.SameBlock(b, before) != reflect.DeepEqual(b, before) {
			t.Fatalf("%+v", b)
		}
		if !reflect.DeepEqual(b, same) {
			t.Fatal("changed", b)
		}
		before = b
	}
}

// shallow lets calls be nested only so far that a function that calls itself for each level of a deep tree does not come through.
func shallow(t *testing.T) {
	before := debug.SetMaxStack(4 << 20)
	t.Cleanup(func() { debug.SetMaxStack(before) })
}

const levels = 150000

func TestDeepExpressions(t *testing.T) { // P1
	shallow(t)
	for i, up := range []func(api.Expr) api.Expr{
		func(e api.Expr) api.Expr { return add(e, v("b")) },
		func(e api.Expr) api.Expr { return add(v("b"), e) },
		func(e api.Expr) api.Expr { return when(e, "C", "b") },
		func(e api.Expr) api.Expr { return merge("b", e) },
		func(e api.Expr) api.Expr { return kind(api.EUn, e) },
	} {
		e, other := last("x"), last("y")
		for range levels {
			e, other = up(e), up(other)
		}
		number(t, "Depth", tree.Depth(e), levels+1)
		number(t, "Size", tree.Size(e), size(up(v("a")))*levels+1-levels)
		list(t, "Lasts", tree.Lasts(e), "x")
		list(t, "Reads", tree.Reads(e), once(reads(up(last("x")), false))...)
		list(t, "All", tree.All(e), once(reads(up(last("x")), true))...)
		if !tree.Stateless(e) || !tree.SameExpr(e, e) || tree.SameExpr(e, other) {
			t.Error("Stateless or SameExpr", i)
		}
	}
}

func TestDeepBlocks(t *testing.T) { // P1
	shallow(t)
	b, other := block(nil, def("x", v("a")), call("f")), block(nil, def("y", v("a")), call("f"))
	for range levels {
		b, other = block([]string{"y"}, arms(api.QReset, b), def("y", v("a"))), block([]string{"y"}, arms(api.QReset, other), def("y", v("a")))
	}
	number(t, "BlockDepth", tree.BlockDepth(b), levels+2)
	number(t, "BlockSize", tree.BlockSize(b), 6*levels+3)
	list(t, "BlockDefines", tree.BlockDefines(b), "x")
	list(t, "Defines", tree.Defines(b.Eqs[0]), "x")
	list(t, "Calls", tree.Calls(b), "f")
	n, m := api.Node{B: b}, api.Node{B: other}
	p, o := api.Program{Nodes: []api.Node{n}}, api.Program{Nodes: []api.Node{m}}
	if !tree.SameBlock(b, b) || tree.SameBlock(b, other) || !tree.SameEq(b.Eqs[0], b.Eqs[0]) || tree.SameEq(b.Eqs[0], other.Eqs[0]) || !tree.SameNode(n, n) || tree.SameNode(n, m) || !tree.Same(p, p) || tree.Same(p, o) {
		t.Error("Same")
	}
}

func TestIllFormed(t *testing.T) { // P1: functions that the document specifies for all expressions
	d := dice(3)
	var odd func(deep int) api.Expr
	odd = func(deep int) api.Expr {
		e := api.Expr{Kind: byte(d.throw(16)), Op: byte(d.throw(99)), N: int32(d.throw(9)), Name: d.name(), Names: []string{d.name()}[:d.throw(2)]}
		for range d.throw(4) * min(1, deep) {
			e.Kids = append(e.Kids, odd(deep-1))
		}
		return e
	}
	for range 20000 {
		e, other := odd(4), odd(1)
		if tree.Size(e) != size(e) || tree.Depth(e) != depth(e) || tree.Stateless(e) != stateless(e) {
			t.Fatalf("%+v", e)
		}
		list(t, "Lasts", tree.Lasts(e), once(lasts(e))...)
		if !tree.SameExpr(e, e) || tree.SameExpr(e, other) != reflect.DeepEqual(e, other) {
			t.Fatalf("%+v, %+v", e, other)
		}
		if _, ok := tree.Value(nil, e); ok != (e.Kind == api.EInt || e.Kind == api.EBool) || tree.Const(e) != (ok || e.Kind == api.ECtor) {
			t.Fatalf("%+v", e)
		}
		tree.Reads(e)
		tree.All(e)
	}
}
