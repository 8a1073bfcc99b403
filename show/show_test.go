package show_test

import (
	"fmt"
	"runtime/debug"
	"strings"
	"testing"

	"metronome/api"
	"metronome/show"
)

// The short forms in which the tests write trees.

func v(name string) api.Expr { return api.Expr{Kind: api.EVar, Name: name} }

func num(n int32) api.Expr { return api.Expr{Kind: api.EInt, N: n} }

func kind(k byte, kids ...api.Expr) api.Expr { return api.Expr{Kind: k, Kids: kids} }

func un(op byte, a api.Expr) api.Expr { return api.Expr{Kind: api.EUn, Op: op, Kids: []api.Expr{a}} }

func bin(op byte, a, b api.Expr) api.Expr {
	return api.Expr{Kind: api.EBin, Op: op, Kids: []api.Expr{a, b}}
}

func when(e api.Expr, ctor, name string) api.Expr {
	return api.Expr{Kind: api.EWhen, Name: name, Names: []string{ctor}, Kids: []api.Expr{e}}
}

func merge(name string, ctors string, kids ...api.Expr) api.Expr {
	return api.Expr{Kind: api.EMerge, Name: name, Names: strings.Fields(ctors), Kids: kids}
}

func same(t *testing.T, got, want string) {
	t.Helper()
	if got != want {
		t.Errorf("%q, not\n%q", got, want)
	}
}

var (
	yes  = api.Expr{Kind: api.EBool, N: 1}
	no   = api.Expr{Kind: api.EBool}
	red  = api.Expr{Kind: api.ECtor, Name: "Red"}
	last = api.Expr{Kind: api.ELast, Name: "x"}
)

func TestLeaves(t *testing.T) { // P5.1
	for want, e := range map[string]api.Expr{
		"0": num(0), "7": num(7), "-1": num(-1), "2147483647": num(1<<31 - 1), "-2147483648": num(-1 << 31),
		"true": yes, "false": no, "Red": red, "node_1": v("node_1"), "last x": last,
	} {
		same(t, show.Expr(e), want)
	}
}

func TestOperators(t *testing.T) { // P5.1
	same(t, show.Expr(un(api.Not, v("x"))), "not x")
	same(t, show.Expr(un(api.Neg, v("x"))), "- x")
	for op, word := range map[byte]string{
		api.Add: "+", api.Sub: "-", api.Mul: "*", api.Div: "/", api.Mod: "mod", api.And: "and", api.Or: "or", api.Xor: "xor",
		api.Eq: "=", api.Ne: "<>", api.Lt: "<", api.Le: "<=", api.Gt: ">", api.Ge: ">=",
	} {
		same(t, show.Expr(bin(op, v("x"), v("y"))), "x "+word+" y")
	}
	same(t, show.Expr(kind(api.EIf, v("c"), v("a"), v("b"))), "if c then a else b")
	same(t, show.Expr(kind(api.EFby, v("y"), v("x"))), "y fby x")
	same(t, show.Expr(kind(api.EPre, v("x"))), "pre x")
	same(t, show.Expr(kind(api.EArrow, v("x"), v("y"))), "x -> y")
	same(t, show.Expr(when(v("x"), "C", "v")), "x when C(v)")
	same(t, show.Expr(when(v("x"), "true", "v")), "x when true(v)")
	same(t, show.Expr(merge("v", "C D", v("a"), v("b"))), "(merge v (C -> a) (D -> b))")
	same(t, show.Expr(merge("v", "C", v("a"))), "(merge v (C -> a))")
	same(t, show.Expr(merge("v", "false true C", v("a"), v("b"), v("c"))), "(merge v (false -> a) (true -> b) (C -> c))")
}

// kids are kids of all kinds: as they stand alone, and as operands.
var kids = []struct {
	e             api.Expr
	alone, inside string
}{
	{num(7), "7", "7"}, {num(0), "0", "0"}, {num(-1), "-1", "(-1)"}, {num(-1 << 31), "-2147483648", "(-2147483648)"},
	{yes, "true", "true"}, {no, "false", "false"}, {red, "Red", "Red"}, {v("a"), "a", "a"},
	{last, "last x", "(last x)"},
	{un(api.Not, v("a")), "not a", "(not a)"}, {un(api.Neg, v("a")), "- a", "(- a)"},
	{bin(api.Add, v("a"), num(-2)), "a + (-2)", "(a + (-2))"},
	{kind(api.EIf, v("a"), v("b"), v("c")), "if a then b else c", "(if a then b else c)"},
	{kind(api.EFby, num(0), v("a")), "0 fby a", "(0 fby a)"},
	{kind(api.EPre, v("a")), "pre a", "(pre a)"},
	{kind(api.EArrow, num(0), v("a")), "0 -> a", "(0 -> a)"},
	{when(v("a"), "C", "m"), "a when C(m)", "(a when C(m))"},
	{merge("m", "C D", v("a"), bin(api.Sub, v("b"), num(1))), "(merge m (C -> a) (D -> b - 1))", "(merge m (C -> a) (D -> b - 1))"},
}

func TestParentheses(t *testing.T) { // P5.1
	for _, k := range kids {
		same(t, show.Expr(k.e), k.alone)
		same(t, show.Expr(un(api.Not, k.e)), "not "+k.inside)
		if k.e.Kind != api.EInt {
			same(t, show.Expr(un(api.Neg, k.e)), "- "+k.inside)
		}
		for _, l := range kids {
			same(t, show.Expr(bin(api.Sub, k.e, l.e)), k.inside+" - "+l.inside)
			same(t, show.Expr(kind(api.EFby, k.e, l.e)), k.inside+" fby "+l.inside)
			same(t, show.Expr(kind(api.EArrow, k.e, l.e)), k.inside+" -> "+l.inside)
			same(t, show.Expr(kind(api.EIf, k.e, l.e, k.e)), "if "+k.alone+" then "+l.alone+" else "+k.alone)
			same(t, show.Expr(merge("v", "C D", k.e, l.e)), "(merge v (C -> "+k.alone+") (D -> "+l.alone+"))")
		}
		same(t, show.Expr(kind(api.EPre, k.e)), "pre "+k.inside)
		same(t, show.Expr(when(k.e, "D", "n")), k.inside+" when D(n)")
	}
	for n, want := range map[int32]string{0: "- (0)", 7: "- (7)", -7: "- (-7)"} {
		same(t, show.Expr(un(api.Neg, num(n))), want)
	}
	same(t, show.Expr(un(api.Neg, kind(api.EPre, num(7)))), "- (pre 7)")
	same(t, show.Expr(bin(api.Sub, num(1), num(2))), "1 - 2")
}

func TestUnusedFields(t *testing.T) { // P5.1, P5.2: fields that a kind does not use are ignored
	junk := api.Expr{Kind: api.EInt, Op: api.Neg, N: 5, Name: "junk", Names: []string{"J"}, Kids: []api.Expr{v("junk")}}
	same(t, show.Expr(junk), "5")
	for k, want := range map[byte]string{api.EBool: "true", api.ECtor: "junk", api.EVar: "junk", api.ELast: "last junk"} {
		junk.Kind = k
		same(t, show.Expr(junk), want)
	}
	e := kind(api.EPre, num(3))
	e.Op = api.Neg
	same(t, show.Expr(e), "pre 3")
	x := api.Var{Name: "x", T: api.Type{Kind: api.TInt, Name: "junk"}, First: num(3)}
	same(t, show.Var(x), "x : int")
	q := api.Equation{Kind: api.QSwitch, Lhs: []string{"junk"}, Name: "junk", Has: true, E: v("a"),
		Arms: []api.Arm{{Name: "A", Unless: []api.Trans{{E: v("a"), To: "B"}}, Until: []api.Trans{{E: v("a"), To: "B"}}}}}
	same(t, equations(q), "  switch a\n  | A\n    do\n  end;\n")
	q.Kind = api.QReset
	same(t, equations(q), "  reset\n    do\n  every a;\n")
	q.Kind = api.QDef
	same(t, equations(q), "  junk = a;\n")
	q.Kind, q.Has = api.QCall, false
	same(t, equations(q), "  junk = junk();\n")
}

func TestTypesAndVars(t *testing.T) { // P5.2
	same(t, show.Type(api.Type{Kind: api.TBool}), "bool")
	same(t, show.Type(api.Type{Kind: api.TInt}), "int")
	same(t, show.Type(api.Type{Kind: api.TEnum, Name: "color"}), "color")
	x := api.Var{Name: "x", T: api.Type{Kind: api.TBool}}
	same(t, show.Var(x), "x : bool")
	x.Clock = []api.On{{Ctor: "Red", Var: "c"}}
	same(t, show.Var(x), "x : bool when Red(c)")
	x.Clock = append(x.Clock, api.On{Ctor: "true", Var: "d"})
	same(t, show.Var(x), "x : bool when Red(c) when true(d)")
	x.Last, x.First = true, no
	same(t, show.Var(x), "last x : bool when Red(c) when true(d) = false")
	y := api.Var{Name: "y", T: api.Type{Kind: api.TEnum, Name: "color"}, Last: true}
	for _, k := range kids {
		y.First = k.e
		same(t, show.Var(y), "last y : color = "+k.alone)
	}
}

// equations are equations as they stand in a node.
func equations(l ...api.Equation) string {
	s := show.Node(api.Node{Name: "f", B: api.Block{Eqs: l}})
	return strings.TrimSuffix(strings.TrimPrefix(s, "node f() returns ()\nlet\n"), "tel\n")
}

func def(name string, e api.Expr) api.Equation {
	return api.Equation{Kind: api.QDef, Lhs: []string{name}, E: e}
}

func TestEquations(t *testing.T) { // P5.2
	same(t, equations(), "")
	for _, k := range kids {
		same(t, equations(def("x", k.e)), "  x = "+k.alone+";\n")
		c := api.Equation{Kind: api.QCall, Lhs: []string{"x", "y"}, Name: "f", Args: []api.Expr{k.e, v("b"), k.e}, E: k.e}
		same(t, equations(c), "  (x, y) = f("+k.alone+", b, "+k.alone+");\n")
		c.Has = true
		same(t, equations(c), "  (x, y) = f("+k.alone+", b, "+k.alone+") every "+k.alone+";\n")
		c.Lhs, c.Args = []string{"x"}, c.Args[:1]
		same(t, equations(c), "  x = f("+k.alone+") every "+k.alone+";\n")
	}
	same(t, equations(api.Equation{Kind: api.QCall, Name: "g"}, def("y", num(1))), "  () = g();\n  y = 1;\n")
	same(t, equations(api.Equation{Kind: api.QCall, Name: "g", Lhs: []string{"x", "y", "z"}}), "  (x, y, z) = g();\n")
}

func block(vars string, eqs ...api.Equation) api.Block {
	b := api.Block{Eqs: eqs}
	for _, name := range strings.Fields(vars) {
		b.Vars = append(b.Vars, api.Var{Name: name, T: api.Type{Kind: api.TInt}})
	}
	return b
}

func TestBlocks(t *testing.T) { // P5.2
	reset := api.Equation{Kind: api.QReset, E: bin(api.And, v("r"), v("s")), Arms: []api.Arm{{B: block("y z", def("x", v("y")), def("y", num(-1)))}}}
	same(t, equations(reset), `  reset
    var y : int; z : int;
    do
      x = y;
      y = -1;
  every r and s;
`)
	state := api.Equation{Kind: api.QAuto, Arms: []api.Arm{
		{Name: "Up", B: block("y", reset), Unless: []api.Trans{{E: bin(api.Gt, v("x"), num(5)), To: "Down"}, {E: v("a"), To: "Up", Resume: true}},
			Until: []api.Trans{{E: kind(api.EIf, v("a"), v("b"), v("c")), To: "Up"}, {E: un(api.Not, v("a")), To: "Down", Resume: true}}},
		{Name: "Down", B: block("")},
		{Name: "Off", B: block("", def("x", last)), Until: []api.Trans{{E: yes, To: "Up"}}},
	}}
	same(t, equations(state), `  automaton
  | Up
    var y : int;
    do
      reset
        var y : int; z : int;
        do
          x = y;
          y = -1;
      every r and s;
    unless x > 5 then Down
    unless a continue Up
    until if a then b else c then Up
    until not a continue Down
  | Down
    do
  | Off
    do
      x = last x;
    until true then Up
  end;
`)
	ask := api.Equation{Kind: api.QSwitch, E: bin(api.Eq, v("x"), num(0)), Arms: []api.Arm{
		{Name: "true", B: block("", def("x", num(1)), state)}, {Name: "Red", B: block("w")}}}
	got := equations(ask, def("y", num(2)))
	same(t, got[:strings.Index(got, "      automaton\n")], "  switch x = 0\n  | true\n    do\n      x = 1;\n")
	same(t, got[strings.Index(got, "        until true then Up\n"):], `        until true then Up
      end;
  | Red
    var w : int;
    do
  end;
  y = 2;
`)
	inner := equations(state)
	deeper := "    " + strings.ReplaceAll(strings.TrimSuffix(inner, "\n"), "\n", "\n    ") + "\n"
	if !strings.Contains(got, deeper) {
		t.Errorf("%s\nis not in\n%s", deeper, got)
	}
	same(t, equations(api.Equation{Kind: api.QSwitch, E: v("a")}), "  switch a\n  end;\n")
	same(t, equations(api.Equation{Kind: api.QAuto}), "  automaton\n  end;\n")
}

func TestProgram(t *testing.T) { // P5.2
	same(t, show.Program(api.Program{}), "")
	count := api.Node{Name: "count",
		Ins:  []api.Var{{Name: "a", T: api.Type{Kind: api.TInt}}, {Name: "r", T: api.Type{Kind: api.TBool}, Clock: []api.On{{Ctor: "Red", Var: "c"}}}},
		Outs: []api.Var{{Name: "x", T: api.Type{Kind: api.TInt}, Last: true, First: num(-3)}, {Name: "y", T: api.Type{Kind: api.TEnum, Name: "color"}}},
		B: api.Block{
			Vars: []api.Var{{Name: "n", T: api.Type{Kind: api.TInt}}, {Name: "m", T: api.Type{Kind: api.TBool}}},
			Eqs:  []api.Equation{def("x", bin(api.Add, kind(api.EFby, num(0), v("x")), v("a"))), def("y", red)},
		}}
	counts := `node count(a : int; r : bool when Red(c)) returns (last x : int = -3; y : color)
var n : int; m : bool;
let
  x = (0 fby x) + a;
  y = Red;
tel
`
	same(t, show.Node(count), counts)
	same(t, show.Node(api.Node{Name: "f"}), "node f() returns ()\nlet\ntel\n")
	enums := []api.Enum{{Name: "color", Ctors: []string{"Red", "Green", "Blue"}}, {Name: "one", Ctors: []string{"One"}}}
	p := api.Program{Enums: enums, Nodes: []api.Node{{Name: "f"}, count}}
	want := "type color = Red | Green | Blue;\ntype one = One;\nnode f() returns ()\nlet\ntel\n" + counts
	same(t, show.Program(p), want)
	same(t, show.Program(api.Program{Enums: enums[1:]}), "type one = One;\n")
	before := fmt.Sprintf("%#v", p)
	same(t, show.Program(p), want) // P2
	if got := fmt.Sprintf("%#v", p); got != before {
		t.Error("changed", got)
	}
}

func TestDeep(t *testing.T) { // P1
	const levels = 150000
	defer debug.SetMaxStack(debug.SetMaxStack(4 << 20))
	for i, c := range []struct {
		up             func(api.Expr) api.Expr
		before, behind string
	}{
		{func(e api.Expr) api.Expr { return un(api.Not, e) }, "not (", ")"},
		{func(e api.Expr) api.Expr { return bin(api.Add, e, v("b")) }, "(", ") + b"},
		{func(e api.Expr) api.Expr { return bin(api.Add, v("b"), e) }, "b + (", ")"},
		{func(e api.Expr) api.Expr { return merge("b", "C D", e, v("a")) }, "(merge b (C -> ", ") (D -> a))"},
		{func(e api.Expr) api.Expr { return kind(api.EIf, v("a"), v("b"), e) }, "if a then b else ", ""},
	} {
		e := num(-1)
		for range levels {
			e = c.up(e)
		}
		if want := strings.Repeat(c.before, levels) + "-1" + strings.Repeat(c.behind, levels); show.Expr(e) != want {
			t.Error("expression", i)
		}
	}
}

func TestDeepBlocks(t *testing.T) { // P1
	const levels = 500
	b := block("", def("x", num(1)))
	for range levels {
		b = block("", api.Equation{Kind: api.QReset, E: v("r"), Arms: []api.Arm{{B: b}}})
	}
	var want strings.Builder
	for i := range levels {
		fmt.Fprintf(&want, "%*sreset\n%*sdo\n", 4*i+2, "", 4*i+4, "")
	}
	fmt.Fprintf(&want, "%*sx = 1;\n", 4*levels+2, "")
	for i := range levels {
		fmt.Fprintf(&want, "%*severy r;\n", 4*(levels-1-i)+2, "")
	}
	same(t, equations(b.Eqs...), want.String())
}

func TestTooFewNames(t *testing.T) { // P1: the number of kids is all that a kind requires
	same(t, show.Expr(kind(api.EWhen, v("a"))), "a when ()")
	same(t, show.Expr(merge("v", "C", v("a"), v("b"))), "(merge v (C -> a) ( -> b))")
	same(t, show.Expr(merge("v", "C D")), "(merge v)")
}
