package parse_test

import (
	"reflect"
	"strings"
	"testing"

	"metronome/api"
	"metronome/parse"
)

func at(line, col int) api.Pos { return api.Pos{Line: line, Col: col} }

func v(name string, line, col int) api.Expr {
	return api.Expr{Kind: api.EVar, Name: name, At: at(line, col)}
}

func num(n int32, line, col int) api.Expr {
	return api.Expr{Kind: api.EInt, N: n, At: at(line, col)}
}

var integer, boolean = api.Type{Kind: api.TInt}, api.Type{Kind: api.TBool}

// trees looks whether a text is a program, every place and every unused field too.
func trees(t *testing.T, s string, want api.Program) {
	t.Helper()
	got, err := parse.Program(s)
	if err != nil || !reflect.DeepEqual(got, want) {
		t.Errorf("%s:\n%+v (%v), not\n%+v", s, got, err, want)
	}
}

func TestEmpty(t *testing.T) { // P6.1
	trees(t, "", api.Program{})
	trees(t, "\n-- nothing\n", api.Program{})
}

func TestTypes(t *testing.T) { // P6.1
	one := api.Enum{Name: "one", Ctors: []string{"One"}, At: at(1, 6)}
	trees(t, "type one = One;", api.Program{Enums: []api.Enum{one}})
	color := api.Enum{Name: "color", Ctors: []string{"Red", "Green", "Red"}, At: at(3, 2)}
	f := api.Node{Name: "f", At: at(2, 6)}
	trees(t, "type one=One;\nnode f()returns()let tel type\n color=Red|Green|Red;", api.Program{Enums: []api.Enum{one, color}, Nodes: []api.Node{f}})
}

func TestVars(t *testing.T) { // P6.1
	trees(t, `node f(a : int; last b : bool when true(a) = false)
returns (c : color when Red(a) when Up(b))
var last d : int = -5; e : color;
last g : color when Red(a) = ((Red));
let tel`, api.Program{Nodes: []api.Node{{Name: "f", At: at(1, 6),
		Ins: []api.Var{{Name: "a", T: integer, At: at(1, 8)},
			{Name: "b", T: boolean, Clock: []api.On{{Ctor: "true", Var: "a"}}, Last: true, First: api.Expr{Kind: api.EBool, At: at(1, 46)}, At: at(1, 22)}},
		Outs: []api.Var{{Name: "c", T: api.Type{Kind: api.TEnum, Name: "color"}, Clock: []api.On{{Ctor: "Red", Var: "a"}, {Ctor: "Up", Var: "b"}}, At: at(2, 10)}},
		B: api.Block{Vars: []api.Var{{Name: "d", T: integer, Last: true, First: num(-5, 3, 20), At: at(3, 10)},
			{Name: "e", T: api.Type{Kind: api.TEnum, Name: "color"}, At: at(3, 24)},
			{Name: "g", T: api.Type{Kind: api.TEnum, Name: "color"}, Clock: []api.On{{Ctor: "Red", Var: "a"}}, Last: true, First: api.Expr{Kind: api.ECtor, Name: "Red", At: at(4, 32)}, At: at(4, 6)}}}}}})
}

func TestEquations(t *testing.T) { // P6.1
	trees(t, `node f() returns () let
x = y;
x = f();
(x) = f(1, y) every z;
() = g(y);
 (x, y, z) = g() every 1;
(x) = y;
tel`, api.Program{Nodes: []api.Node{{Name: "f", At: at(1, 6), B: api.Block{Eqs: []api.Equation{
		{Kind: api.QDef, Lhs: []string{"x"}, E: v("y", 2, 5), At: at(2, 1)},
		{Kind: api.QCall, Lhs: []string{"x"}, Name: "f", At: at(3, 1)},
		{Kind: api.QCall, Lhs: []string{"x"}, Name: "f", Args: []api.Expr{num(1, 4, 9), v("y", 4, 12)}, Has: true, E: v("z", 4, 21), At: at(4, 1)},
		{Kind: api.QCall, Name: "g", Args: []api.Expr{v("y", 5, 8)}, At: at(5, 1)},
		{Kind: api.QCall, Lhs: []string{"x", "y", "z"}, Name: "g", Has: true, E: num(1, 6, 24), At: at(6, 2)},
		{Kind: api.QDef, Lhs: []string{"x"}, E: v("y", 7, 7), At: at(7, 1)},
	}}}}})
}

func TestBlocks(t *testing.T) { // P6.1
	trees(t, `node f() returns () let
switch x | true do | Red
  var y : int; do y = 1; end;
reset do
  automaton
  | Up do unless a then Down
    unless b continue Up until c continue Up
  | Down do x = 2; until a then Up end;
every
  r;
tel`, api.Program{Nodes: []api.Node{{Name: "f", At: at(1, 6), B: api.Block{Eqs: []api.Equation{
		{Kind: api.QSwitch, E: v("x", 2, 8), At: at(2, 1), Arms: []api.Arm{
			{Name: "true", At: at(2, 12)},
			{Name: "Red", At: at(2, 22), B: api.Block{
				Vars: []api.Var{{Name: "y", T: integer, At: at(3, 7)}},
				Eqs:  []api.Equation{{Kind: api.QDef, Lhs: []string{"y"}, E: num(1, 3, 23), At: at(3, 19)}}}}}},
		{Kind: api.QReset, E: v("r", 10, 3), At: at(4, 1), Arms: []api.Arm{{At: at(4, 1), B: api.Block{Eqs: []api.Equation{
			{Kind: api.QAuto, At: at(5, 3), Arms: []api.Arm{
				{Name: "Up", At: at(6, 5),
					Unless: []api.Trans{{E: v("a", 6, 18), To: "Down", At: at(6, 11)}, {E: v("b", 7, 12), To: "Up", Resume: true, At: at(7, 5)}},
					Until:  []api.Trans{{E: v("c", 7, 32), To: "Up", Resume: true, At: at(7, 26)}}},
				{Name: "Down", At: at(8, 5), B: api.Block{Eqs: []api.Equation{{Kind: api.QDef, Lhs: []string{"x"}, E: num(2, 8, 17), At: at(8, 13)}}},
					Until: []api.Trans{{E: v("a", 8, 26), To: "Up", At: at(8, 20)}}},
			}}}}}}},
	}}}}})
}

// inNode is a node with equations, which begin line 2.
func inNode(eqs string) string {
	return "node f() returns () let\n" + eqs + "\ntel"
}

func TestLeftSides(t *testing.T) { // P6.1: only a single name can be defined by an expression
	for _, lhs := range []string{"(x, y)", "()", "(x, y, z)"} {
		for _, right := range []string{"1", "y", "y + f(1)", "(f(1))", "-1", "-x", "not x", "2147483648", "if a then b else c", "f", "f)", ")", ";", "tel", "fby", "every", "Red(1)", "last x"} {
			checkProgram(t, inNode(lhs+" =\n"+right), "3:1: syntax")
		}
		checkProgram(t, inNode(lhs+" ="), "3:1: syntax")
		checkProgram(t, inNode(lhs+" = f(1);"), "ok")
		checkProgram(t, inNode(lhs+" =\nf(1)\n+ 2;"), "4:1: syntax")
	}
	checkProgram(t, inNode("x =\nf(1)\n+ 2;"), "4:1: syntax")
	checkProgram(t, inNode("x = 1 + f\n(1);"), "3:1: syntax")
	checkProgram(t, inNode("x = (f\n(1));"), "3:1: syntax")
	checkProgram(t, inNode("x = F\n(1);"), "3:1: syntax")
	checkProgram(t, inNode("x = f -- a call\n(1);"), "ok")
}

func TestFirstValues(t *testing.T) { // P6.1, P6.2
	for _, first := range []string{"5", "-5", "- 5", "(5)", "((-5))", "true", "false", "Red", "(Red)", "-2147483648"} {
		for _, s := range []string{"node f(last x : int = " + first + ") returns () let tel", "node f() returns (last x : int = " + first + "; y : int) let tel", "node f() returns () var last x : int = " + first + "; let tel",
			inNode("reset var last x : int when C(y) = " + first + "; do every 1;")} {
			checkProgram(t, s, "ok")
		}
	}
	for first, col := range map[string]string{
		"a": "1", "(a)": "2", "((a) + 1)": "2", "(5 + 1)": "2", "-(5)": "1", "- -5": "1", "(-(5))": "2", "not true": "1", "pre 1": "1", "last x": "1", "5 when C(v)": "1", "(5) when C(v)": "2", "-5 when C(v)": "1",
		"merge v (C -> 1)": "1", "(1 fby 2)": "2", "((1) -> 2)": "2", "(if 1 then 2 else 3)": "2", "a + b": "1", "a fby b": "1", "a b": "1", "pre 1 2": "1",
	} {
		checkProgram(t, "node f(last x : int =\n"+first+") returns () let tel", "2:"+col+": syntax")
		checkProgram(t, "node f() returns () var last x : int =\n"+first+";\nlet", "2:"+col+": syntax")
	}
	for first, want := range map[string]string{
		"5 + 1": "2:3: syntax", "5 fby 1": "2:3: syntax", "": "2:1: syntax", "if a then b else c": "2:1: syntax", "2147483648": "2:1: limit", "(2147483648": "2:2: limit", "5 5": "2:3: syntax", "(a": "2:3: syntax", "not": "2:4: syntax", "5 when": "2:7: syntax", "(1": "2:3: syntax",
		"(a b)": "2:4: syntax", "f(1)": "2:1: syntax", "not 2147483648": "2:5: limit",
	} {
		checkProgram(t, "node f() returns () var last x : int =\n"+first, want)
	}
	checkProgram(t, "node f(last x : int) returns () let tel", "1:20: syntax")
	checkProgram(t, "node f(x : int = 1) returns () let tel", "1:16: syntax")
	checkProgram(t, "node f(last x : int = 1 when C(y)) returns () let tel", "1:23: syntax")
}

func TestProgramSyntax(t *testing.T) { // P6.1, P6.2
	for s, want := range map[string]string{
		"x": "1:1", "tel": "1:1", "1": "1:1", "type": "1:5", "type One": "1:6", "type one": "1:9", "type one =": "1:11", "type one = two": "1:12", "type one = One": "1:15", "type one = One |": "1:17", "type one = One,": "1:15", "type one = | One": "1:12", "type one = One;;": "1:16", "type bool = One": "1:6", "type one = true": "1:12",
		"node": "1:5", "node F": "1:6", "node f": "1:7", "node f returns": "1:8", "node f(": "1:8", "node f(;": "1:8", "node f(x": "1:9", "node f(x)": "1:9", "node f(x:": "1:10", "node f(x:Int": "1:10", "node f(x:int": "1:13", "node f(x:int;": "1:14", "node f(x:int;)": "1:14", "node f(x:int,y": "1:13", "node f(x,y": "1:9", "node f(last": "1:12", "node f(last last": "1:13", "node f(X": "1:8", "node f(x:int when C": "1:20",
		"node f()": "1:9", "node f() let": "1:10", "node f() returns": "1:17", "node f() returns let": "1:18", "node f() returns ()": "1:20", "node f() returns () var": "1:24", "node f() returns () var let": "1:25", "node f() returns () var x : int": "1:32", "node f() returns () var x : int let": "1:33", "node f() returns () var x : int;": "1:33", "node f() returns () var x : int; var": "1:34",
		"node f() returns () var x : int; y": "1:35", "node f() returns () do": "1:21", "node f() returns () let": "1:24", "node f() returns () let tel;": "1:28", "node f() returns () let tel tel": "1:29", "node f() returns () let end": "1:25", "node f() returns () tel": "1:21",
	} {
		checkProgram(t, s, want+": syntax")
	}
}

func TestEquationSyntax(t *testing.T) { // P6.1, P6.2
	for s, want := range map[string]string{
		"x": "3:1", "x = 1": "3:1", "x = 1,": "2:6", "x 1": "2:3", "x = ;": "2:5", "X = 1;": "2:1", "1 = x;": "2:1", ";": "2:1", "x = 1;;": "2:7", "x, y = f();": "2:2", "x(": "2:2", "(x y": "2:4", "(x,)": "2:4", "(,x)": "2:2", "(X)": "2:2", "(x;": "2:3", "((x)) = 1;": "2:2", "(x)(": "2:4",
		"x = f(": "3:1", "x = f(1": "3:1", "x = f(,": "2:7", "x = f(1,)": "2:9", "x = f(1;)": "2:8", "x = f() y": "2:9", "x = f() every": "3:1", "x = f() every;": "2:14", "x = f() + 1;": "2:9", "x = f() every x every": "2:17", "x = f() when C(v);": "2:9", "x = 1 every": "2:7", "x = f(g(1));": "2:8",
		"switch": "3:1", "switch x": "3:1", "switch x end": "2:10", "switch x |": "3:1", "switch x | c": "2:12", "switch x | C": "3:1", "switch x | C x = 1;": "2:14", "switch x | C do": "3:1", "switch x | C do x = 1 end": "2:23", "switch x | C do end": "3:1", "switch x | C do end x": "2:21", "switch x | C do unless": "2:17", "switch x | C do until": "2:17", "switch | C do end;": "2:8", "switch x | C let": "2:14", "switch x | 1 do": "2:12", "switch x | C var do": "2:18", "switch x | C do every": "2:17", "switch x | C do tel": "2:17",
		"automaton": "3:1", "automaton end": "2:11", "automaton x": "2:11", "automaton |": "3:1", "automaton | true": "2:13", "automaton | c": "2:13", "automaton | C": "3:1", "automaton | C do": "3:1", "automaton | C do end": "3:1", "automaton | C do x": "3:1", "automaton | C do unless": "3:1", "automaton | C do unless then": "2:25", "automaton | C do unless x": "3:1", "automaton | C do unless x else": "2:27", "automaton | C do unless x then": "3:1", "automaton | C do unless x then c": "2:32", "automaton | C do unless x then true": "2:32", "automaton | C do until x continue": "3:1", "automaton | C do until x continue C unless": "2:37", "automaton | C do until x then C; end": "2:32", "automaton | C do until x then C do": "2:33", "automaton | C do x = 1; until x then C until end": "2:46", "automaton | C do every": "2:18",
		"reset": "3:1", "reset x": "2:7", "reset do": "3:1", "reset do end": "2:10", "reset do every": "3:1", "reset do every;": "2:15", "reset do every x": "3:1", "reset do every x,": "2:17", "reset var do": "2:11", "reset | C do": "2:7", "reset do | C": "2:10", "reset let": "2:7", "reset do every x every": "2:18",
	} {
		checkProgram(t, inNode(s), want+": syntax")
	}
	checkProgram(t, inNode(""), "ok")
}

func TestAgain(t *testing.T) { // P2: what was parsed ahead of a text does not matter
	s := inNode("x = (1 fby x) + 1;")
	first, _ := parse.Program(s)
	for _, wrong := range []string{inNode(strings.Repeat("reset do ", 64)), inNode("x = ((((((1"), "node"} {
		fault(wrong)
		if again, err := parse.Program(s); err != nil || !reflect.DeepEqual(first, again) {
			t.Errorf("behind %s: %v", wrong, err)
		}
	}
}
