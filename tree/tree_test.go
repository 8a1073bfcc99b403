package tree_test

import (
	"fmt"
	"slices"
	"testing"

	"metronome/api"
	"metronome/tree"
)

// The short forms in which the tests write trees.

func v(name string) api.Expr { return api.Expr{Kind: api.EVar, Name: name} }

func num(n int32) api.Expr { return api.Expr{Kind: api.EInt, N: n} }

func last(name string) api.Expr { return api.Expr{Kind: api.ELast, Name: name} }

func kind(k byte, kids ...api.Expr) api.Expr { return api.Expr{Kind: k, Kids: kids} }

func add(a, b api.Expr) api.Expr {
	return api.Expr{Kind: api.EBin, Op: api.Add, Kids: []api.Expr{a, b}}
}

func when(e api.Expr, ctor, name string) api.Expr {
	return api.Expr{Kind: api.EWhen, Name: name, Names: []string{ctor}, Kids: []api.Expr{e}}
}

func merge(name string, kids ...api.Expr) api.Expr {
	e := api.Expr{Kind: api.EMerge, Name: name, Kids: kids}
	for i := range kids {
		e.Names = append(e.Names, fmt.Sprintf("C%d", i))
	}
	return e
}

func def(name string, e api.Expr) api.Equation {
	return api.Equation{Kind: api.QDef, Lhs: []string{name}, E: e}
}

func call(node string, lhs ...string) api.Equation {
	return api.Equation{Kind: api.QCall, Name: node, Lhs: lhs}
}

func arms(k byte, blocks ...api.Block) api.Equation {
	q := api.Equation{Kind: k, E: v("asked")}
	for i, b := range blocks {
		q.Arms = append(q.Arms, api.Arm{Name: fmt.Sprintf("A%d", i), B: b})
	}
	return q
}

func block(vars []string, eqs ...api.Equation) api.Block {
	b := api.Block{Eqs: eqs}
	for _, name := range vars {
		b.Vars = append(b.Vars, api.Var{Name: name, T: api.Type{Kind: api.TInt}})
	}
	return b
}

func list(t *testing.T, what string, got []string, want ...string) {
	t.Helper()
	if !slices.Equal(got, want) {
		t.Errorf("%s: %q, not %q", what, got, want)
	}
}

func number(t *testing.T, what string, got, want int) {
	t.Helper()
	if got != want {
		t.Errorf("%s: %d, not %d", what, got, want)
	}
}

func TestSizeAndDepth(t *testing.T) { // P4.1
	for i, c := range []struct {
		e           api.Expr
		size, depth int
	}{
		{api.Expr{}, 1, 1},
		{num(7), 1, 1},
		{kind(api.EPre, v("a")), 2, 2},
		{add(v("a"), v("b")), 3, 2},
		{add(add(v("a"), v("b")), v("c")), 5, 3},
		{add(v("a"), add(v("b"), v("c"))), 5, 3},
		{kind(api.EIf, v("a"), kind(api.EPre, kind(api.EPre, v("b"))), num(1)), 6, 4},
		{kind(api.EFby, num(0), kind(api.EArrow, v("a"), v("b"))), 5, 3},
		{merge("m", v("a"), when(v("b"), "C", "m"), num(1)), 5, 3},
		{merge("m"), 1, 1},
		{api.Expr{Names: []string{"a", "b"}}, 1, 1},
		// What follows has not as many kids as its kind requires.
		{kind(api.EInt, v("a"), kind(api.EVar, v("b"))), 4, 3},
		{kind(api.EBin), 1, 1},
		{kind(99, kind(0), kind(0), kind(0)), 4, 2},
	} {
		number(t, fmt.Sprint("Size ", i), tree.Size(c.e), c.size)
		number(t, fmt.Sprint("Depth ", i), tree.Depth(c.e), c.depth)
	}
}

func TestBlockSizeAndDepth(t *testing.T) { // P4.1
	deep := add(add(v("a"), v("b")), v("c")) // of size 5 and depth 3
	withLast := block([]string{"x", "y"})
	withLast.Vars[0].Last, withLast.Vars[0].First = true, deep
	withLast.Vars[1].First = add(deep, deep)
	calls := call("f", "x", "y", "z")
	calls.Args, calls.E = []api.Expr{v("a"), deep}, add(deep, deep)
	again := calls
	again.Has = true
	states := arms(api.QAuto, block(nil), block([]string{"x"}, def("x", v("a"))))
	states.E = deep
	states.Arms[0].Unless = []api.Trans{{E: deep, To: "A1"}}
	states.Arms[1].Until = []api.Trans{{E: v("a")}, {E: v("b"), Resume: true}}
	untrue := def("x", v("a"))
	untrue.Arms, untrue.Args = states.Arms, []api.Expr{deep}
	for i, c := range []struct {
		b           api.Block
		size, depth int
	}{
		{api.Block{}, 0, 1},
		{block([]string{"x", "y"}), 2, 1},
		{withLast, 2 + 5, 1 + 3},
		{block(nil, def("x", deep)), 1 + 5, 1 + 3},
		{block(nil, def("x", v("a")), def("y", deep), def("z", v("b"))), 3 + 7, 1 + 3},
		{block(nil, call("f")), 1, 1},
		{block(nil, calls), 1 + 1 + 5, 1 + 3},
		{block(nil, again), 1 + 1 + 5 + 11, 1 + 4},
		{block(nil, arms(api.QReset, block(nil, def("x", v("a"))))), 2 + 1 + 2, 3},
		{block(nil, arms(api.QSwitch, block(nil), withLast)), 3 + 1 + 7, 1 + 1 + 3},
		{block(nil, arms(api.QSwitch, block(nil, arms(api.QSwitch, block(nil))))), 6, 3},
		{block(nil, arms(api.QSwitch)), 2, 2},
		// The E of an automaton is not among its kids; a way out is in the block around.
		{block(nil, states), 3 + 1 + 5 + 2 + 2 + 1 + 1 + 1, 1 + 3},
		{block(nil, arms(api.QReset, block(nil, states))), 3 + 16, 2 + 3},
		// Fields that a QDef does not use.
		{block(nil, untrue), 2, 2},
	} {
		number(t, fmt.Sprint("BlockSize ", i), tree.BlockSize(c.b), c.size)
		number(t, fmt.Sprint("BlockDepth ", i), tree.BlockDepth(c.b), c.depth)
	}
}

func TestReadsAndAll(t *testing.T) { // P4.2
	for i, c := range []struct {
		e          api.Expr
		reads, all []string
	}{
		{num(1), nil, nil},
		{api.Expr{Kind: api.ECtor, Name: "C"}, nil, nil},
		{last("x"), nil, nil},
		{v("a"), []string{"a"}, []string{"a"}},
		{add(v("a"), kind(api.EFby, num(0), v("b"))), []string{"a"}, []string{"a", "b"}},
		{add(v("b"), add(v("a"), v("b"))), []string{"b", "a"}, []string{"b", "a"}},
		{kind(api.EPre, v("a")), nil, []string{"a"}},
		{kind(api.EFby, v("a"), v("b")), []string{"a"}, []string{"a", "b"}},
		{kind(api.EArrow, v("a"), v("b")), []string{"a", "b"}, []string{"a", "b"}},
		{kind(api.EIf, v("c"), v("a"), v("b")), []string{"c", "a", "b"}, []string{"c", "a", "b"}},
		{when(v("a"), "C", "m"), []string{"a", "m"}, []string{"a", "m"}},
		{when(when(v("a"), "C", "m"), "D", "n"), []string{"a", "m", "n"}, []string{"a", "m", "n"}},
		{when(v("m"), "C", "m"), []string{"m"}, []string{"m"}},
		{when(kind(api.EPre, v("a")), "C", "m"), []string{"m"}, []string{"a", "m"}},
		{add(when(v("a"), "C", "m"), v("b")), []string{"a", "m", "b"}, []string{"a", "m", "b"}},
		{merge("m", v("b"), when(v("a"), "C", "m"), v("n")), []string{"m", "b", "a", "n"}, []string{"m", "b", "a", "n"}},
		{merge("m", v("a"), kind(api.EPre, v("b"))), []string{"m", "a"}, []string{"m", "a", "b"}},
		{add(kind(api.EPre, v("a")), add(v("b"), v("a"))), []string{"b", "a"}, []string{"a", "b"}},
		{add(add(v("a"), v("b")), add(add(v("c"), v("a")), v("d"))), []string{"a", "b", "c", "d"}, []string{"a", "b", "c", "d"}},
		{add(v(""), v("")), []string{""}, []string{""}},
	} {
		list(t, fmt.Sprint("Reads ", i), tree.Reads(c.e), c.reads...)
		list(t, fmt.Sprint("All ", i), tree.All(c.e), c.all...)
	}
}

func TestLasts(t *testing.T) { // P4.2
	list(t, "none", tree.Lasts(add(v("a"), num(1))))
	list(t, "one", tree.Lasts(last("x")), "x")
	list(t, "order", tree.Lasts(add(add(last("y"), last("x")), kind(api.EIf, last("z"), last("x"), last("y")))), "y", "x", "z")
	list(t, "all kids", tree.Lasts(merge("m", kind(api.EPre, last("x")), when(kind(api.EFby, num(0), last("y")), "C", "n"))), "x", "y")
	odd := last("x")
	odd.Kids = []api.Expr{last("y"), kind(api.EInt, last("z"))}
	list(t, "ahead of its kids", tree.Lasts(odd), "x", "y", "z")
}

func TestStatelessAndConst(t *testing.T) { // P4.2
	for k := range 20 {
		k := byte(k)
		state := k == api.EFby || k == api.EPre || k == api.EArrow
		one := api.Expr{Kind: k, Kids: []api.Expr{v("a"), v("b")}}
		if got := tree.Stateless(one); got == state {
			t.Errorf("Stateless of kind %d: %t", k, got)
		}
		for i, e := range []api.Expr{kind(api.EIf, v("a"), v("b"), one), kind(api.EInt, one), add(one, v("a")), when(add(v("a"), one), "C", "m")} {
			if got := tree.Stateless(e); got == state {
				t.Errorf("Stateless %d of kind %d: %t", i, k, got)
			}
		}
		if got, want := tree.Const(one), k == api.EInt || k == api.EBool || k == api.ECtor; got != want {
			t.Errorf("Const of kind %d: %t", k, got)
		}
	}
	if tree.Stateless(add(kind(api.EPre, v("a")), v("b"))) || !tree.Stateless(last("x")) || tree.Const(add(num(1), num(2))) {
		t.Error("a state, a last value or a sum")
	}
}

func TestDefines(t *testing.T) { // P4.3
	list(t, "a variable", tree.Defines(def("x", v("a"))), "x")
	list(t, "a call", tree.Defines(call("f", "y", "x")), "y", "x")
	list(t, "none", tree.Defines(call("f")))
	list(t, "twice", tree.Defines(call("f", "x", "y", "x")), "x", "y")
	q := arms(api.QSwitch, block(nil, def("b", v("i")), call("f", "a", "c")), block(nil, def("a", v("i")), def("d", v("i"))))
	list(t, "arms", tree.Defines(q), "b", "a", "c", "d")
	own := arms(api.QAuto,
		block([]string{"a"}, def("a", v("i")), def("b", v("i"))),
		block([]string{"b", "c"}, def("a", v("i")), def("b", v("i")), def("c", v("i"))))
	list(t, "own", tree.Defines(own), "b", "a")
	in := arms(api.QReset, block([]string{"x"}, own, def("x", v("a")), arms(api.QSwitch, block(nil, def("x", v("a")), def("y", v("a"))))))
	list(t, "deeper", tree.Defines(in), "b", "a", "y")
	both := arms(api.QReset, block([]string{"x"}, arms(api.QReset, block([]string{"x"}, def("x", v("a")))), def("x", v("a"))), block(nil, def("x", v("a"))))
	list(t, "in one arm only", tree.Defines(both), "x")
	odd := arms(api.QSwitch, block(nil, def("x", v("a"))))
	odd.Lhs = []string{"unused"}
	list(t, "a field that a QSwitch does not use", tree.Defines(odd), "x")
	odd.Kind = api.QCall
	list(t, "a field that a QCall does not use", tree.Defines(odd), "unused")
}

func TestBlockDefines(t *testing.T) { // P4.3
	list(t, "empty", tree.BlockDefines(api.Block{}))
	b := block([]string{"y", "unused"}, def("z", v("a")), def("y", v("a")), arms(api.QSwitch, block(nil, def("x", v("a")), def("y", v("a"))), block(nil, def("z", v("a")))), def("w", v("a")))
	list(t, "order", tree.BlockDefines(b), "z", "x", "w")
	b.Vars = nil
	list(t, "no variables", tree.BlockDefines(b), "z", "y", "x", "w")
	b.Vars = []api.Var{{Name: "x"}, {Name: "x"}, {Name: "z"}}
	list(t, "declared twice", tree.BlockDefines(b), "y", "w")
}

func TestCalls(t *testing.T) { // P4.3
	list(t, "none", tree.Calls(block(nil, def("x", v("f")))))
	inner := block(nil, call("h"), arms(api.QReset, block(nil, call("k"), call("f"))), call("i"))
	b := block([]string{"f"}, call("g"), arms(api.QAuto, inner, block(nil, call("g"))), call("f"), call("j"), call("k"))
	list(t, "order", tree.Calls(b), "g", "h", "k", "f", "i", "j")
	odd := def("x", v("a"))
	odd.Name, odd.Arms = "unused", []api.Arm{{B: inner}}
	list(t, "fields that a QDef does not use", tree.Calls(block(nil, odd)))
}

// colors and days share a constructor; there are two types t.
var colors = []api.Enum{
	{Name: "color", Ctors: []string{"Red", "Green"}},
	{Name: "t", Ctors: []string{"One"}},
	{Name: "day", Ctors: []string{"Sun", "Red", "Mon", "Mon"}},
	{Name: "t", Ctors: []string{"Two", "One"}},
	{Name: "none"},
}

func TestFind(t *testing.T) { // P4.3
	vars := []api.Var{{Name: "a"}, {Name: "b"}, {Name: "a"}, {Name: "c"}}
	p := api.Program{Nodes: []api.Node{{Name: "f"}, {Name: "g"}, {Name: "g"}}}
	for i, c := range []struct{ got, want int }{
		{tree.Find(vars, "a"), 0}, {tree.Find(vars, "b"), 1}, {tree.Find(vars, "c"), 3}, {tree.Find(vars, "d"), -1}, {tree.Find(nil, "a"), -1}, {tree.Find(vars, ""), -1},
		{tree.FindNode(p, "f"), 0}, {tree.FindNode(p, "g"), 1}, {tree.FindNode(p, "h"), -1}, {tree.FindNode(api.Program{}, "f"), -1},
		{tree.FindEnum(colors, "color"), 0}, {tree.FindEnum(colors, "t"), 1}, {tree.FindEnum(colors, "day"), 2}, {tree.FindEnum(colors, "Red"), -1}, {tree.FindEnum(nil, "t"), -1},
		{tree.CtorEnum(colors, "Green"), 0}, {tree.CtorEnum(colors, "Red"), 0}, {tree.CtorEnum(colors, "Mon"), 2}, {tree.CtorEnum(colors, "One"), 1}, {tree.CtorEnum(colors, "Two"), 3}, {tree.CtorEnum(colors, "color"), -1}, {tree.CtorEnum(nil, "Red"), -1},
	} {
		number(t, fmt.Sprint("found ", i), c.got, c.want)
	}
}

func TestCtors(t *testing.T) { // P4.3
	list(t, "bool", tree.Ctors(colors, api.Type{Kind: api.TBool, Name: "day"}), "false", "true")
	list(t, "int", tree.Ctors(colors, api.Type{Kind: api.TInt, Name: "day"}))
	list(t, "none", tree.Ctors(colors, api.Type{Name: "day"}))
	list(t, "not there", tree.Ctors(colors, api.Type{Kind: api.TEnum, Name: "week"}))
	list(t, "the first t", tree.Ctors(colors, api.Type{Kind: api.TEnum, Name: "t"}), "One")
	day := api.Type{Kind: api.TEnum, Name: "day"}
	l := tree.Ctors(colors, day)
	list(t, "day", l, "Sun", "Red", "Mon", "Mon")
	l[0] = "changed"
	list(t, "day again", tree.Ctors(colors, day), "Sun", "Red", "Mon", "Mon")
}

func TestValue(t *testing.T) { // P4.3
	ctor := func(s string) api.Expr { return api.Expr{Kind: api.ECtor, Name: s, N: 9} }
	for i, c := range []struct {
		e    api.Expr
		want int32
		ok   bool
	}{
		{num(-5), -5, true}, {num(0), 0, true}, {num(-1 << 31), -1 << 31, true},
		{api.Expr{Kind: api.EBool, N: 1}, 1, true}, {api.Expr{Kind: api.EBool}, 0, true},
		{ctor("Red"), 0, true}, {ctor("Green"), 1, true}, {ctor("Mon"), 2, true}, {ctor("Two"), 0, true},
		{ctor("Blue"), 0, false}, {ctor(""), 0, false},
		{api.Expr{Kind: api.EVar, Name: "Red", N: 9}, 0, false}, {add(num(1), num(2)), 0, false}, {api.Expr{N: 9}, 0, false}, {kind(api.EInt, num(3)), 0, true},
	} {
		if n, ok := tree.Value(colors, c.e); n != c.want || ok != c.ok {
			t.Errorf("Value %d: %d, %t", i, n, ok)
		}
	}
	if n, ok := tree.Value(nil, ctor("Red")); n != 0 || ok {
		t.Error("Value without types:", n, ok)
	}
}

func TestMade(t *testing.T) { // P4.3
	for i, c := range []struct{ got, want api.Expr }{
		{tree.Int(-3), num(-3)},
		{tree.Int(0), num(0)},
		{tree.Bool(true), api.Expr{Kind: api.EBool, N: 1}},
		{tree.Bool(false), api.Expr{Kind: api.EBool}},
		{tree.Ctor("C"), api.Expr{Kind: api.ECtor, Name: "C"}},
		{tree.Name("x"), v("x")},
		{tree.Pick(api.Type{Kind: api.TBool}, "true"), api.Expr{Kind: api.EBool, N: 1}},
		{tree.Pick(api.Type{Kind: api.TBool}, "false"), api.Expr{Kind: api.EBool}},
		{tree.Pick(api.Type{Kind: api.TBool}, "C"), api.Expr{Kind: api.EBool}},
		{tree.Pick(api.Type{Kind: api.TEnum, Name: "t"}, "true"), api.Expr{Kind: api.ECtor, Name: "true"}},
		{tree.Pick(api.Type{Kind: api.TInt}, "C"), api.Expr{Kind: api.ECtor, Name: "C"}},
		{tree.When(add(v("a"), num(1)), api.On{Ctor: "C", Var: "m"}), when(add(v("a"), num(1)), "C", "m")},
	} {
		if fmt.Sprintf("%#v", c.got) != fmt.Sprintf("%#v", c.want) {
			t.Errorf("%d: %#v, not %#v", i, c.got, c.want)
		}
	}
}
