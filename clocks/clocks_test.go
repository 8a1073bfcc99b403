package clocks_test

import (
	"runtime/debug"
	"slices"
	"testing"

	"metronome/api"
	"metronome/clocks"
	"metronome/faults"
	"metronome/names"
	"metronome/parse"
	"metronome/sample"
	"metronome/tree"
	"metronome/types"
)

func TestSame(t *testing.T) { // P9.1
	red, green, other := api.On{Ctor: "Red", Var: "c"}, api.On{Ctor: "Green", Var: "c"}, api.On{Ctor: "Red", Var: "d"}
	l := [][]api.On{nil, {red}, {green}, {other}, {red, red}, {red, other}, {other, red}, {red, other, green}}
	for i, a := range l {
		for j, b := range l {
			if clocks.Same(a, slices.Clone(b)) != (i == j) {
				t.Errorf("%v, %v", a, b)
			}
		}
	}
	if !clocks.Same(nil, []api.On{}) || !clocks.Same([]api.On{}, nil) {
		t.Errorf("nil is not empty")
	}
}

// body is a program with that block, of a node with the inputs a, b and c, none of them sampled, and the outputs x and y (a last value); f, g, h and k are nodes.
func body(s string) string {
	return "type c = Red | Green; type d = One;\nnode f(a: int) returns (x: int) let x = a; tel\nnode g() returns () let tel node h(a: int; b: bool) returns (x: int; y: bool) let x = a; y = b; tel\n" +
		"node k(a: int; b: int) returns () let tel node main(a: int; b: bool; c: c) returns (x: int; last y: int = 0)\n" + s
}

// sampled is one whose block has variables on clocks of its own: v and w where c is Red, u where v is also true.
func sampled(s string) string {
	return body("var u: int when Red(c) when true(v); v: bool when Red(c); last w: int when Red(c) = 3; let " + s + " tel")
}

// rest defines what a test does not.
const rest = " u = 1; v = true; w = 2; x = 3; y = 4;"

func holds(t *testing.T, l []string) {
	t.Helper()
	for _, marked := range l {
		text, at := sample.Cut(marked)
		p, err := parse.Program(text)
		if err := faults.First(err, names.Check(p), types.Check(p)); err != nil {
			t.Fatalf("%s: %v", marked, err)
		}
		err = clocks.Check(p)
		if faults.Where(err) != at || (err == nil) != (at == api.Pos{}) || err != nil && faults.Kind(err) != api.Clock {
			t.Errorf("%s: %v, not at %v", marked, err, at)
		}
		if want := check(p); faults.Text(err) != faults.Text(want) {
			t.Errorf("%s: %v, not %v", marked, err, want)
		}
	}
}

func TestVariables(t *testing.T) { // P9.1, P9.3
	holds(t, []string{
		"", "type c = Red;", body("let x = 1; y = x; tel"), sampled(rest),
		"node f(b: bool; last a: int = 1) returns () let tel",
		"node f(@a: int when true(b); b: bool) returns () let tel",
		"node f(b: bool; a: int; @c: int when false(b)) returns () let tel",
		"node f(b: bool) returns (@x: int when true(b)) let x = 1; tel",
		"node f(@a: bool when true(a)) returns () let tel",
		"node f(b: bool; @a: int when true(b)) returns (x: int when true(b)) let x = 1; tel",
		"node f(b: bool) returns (@x: int when true(b)) var v: int when true(v2) when true(v2); v2: bool; let x = 1; v = 1; v2 = b; tel",
		"node f(b: bool) returns (x: int) var v: int when true(b); let v = 1; x = @v; tel node g(b: bool) returns (x: int when true(b)) let x = 1; tel",
		"node f() returns (x: bool) let x = true; tel node g(b: bool) returns (@x: int when true(b)) let x = 1; tel",
		"node f() returns () var @v: bool when true(v); let v = true; tel node g(a: int when true(b); b: bool) returns () let tel",
		body("var v: int when Red(w); w: c; let v = 1; w = c; x = 1; y = 1; tel"),
		body("var @v: bool when true(v); let v = true; x = 1; y = 1; tel"),
		body("var @v: bool when true(w); w: bool when true(v); let v = true; w = true; x = 1; y = 1; tel"),
		body("var @v: int when Red(c) when true(b); let v = 1; x = 1; y = 1; tel"),
		body("var @v: int when Red(c) when Red(c); let v = 1; x = 1; y = 1; tel"),
		body("var v: int when Red(c) when true(w); w: bool when Red(c); let v = 1; w = true; x = 1; y = 1; tel"),
		body("var @v: int when Red(c) when true(w); w: bool when Green(c); let v = 1; w = true; x = 1; y = 1; tel"),
		body("var w: bool when Green(c); @v: int when true(w); let v = 1; w = true; x = 1; y = 1; tel"),
		body("var w: bool when Green(c); @v: int when true(b) when true(w); let v = 1; w = true; x = 1; y = 1; tel"),
		body("var w: bool when Red(c); o: d when Red(c) when true(w); v: int when Red(c) when true(w) when One(o); let v = 1; w = true; o = One; x = 1; y = 1; tel"),
		body("var w: bool when Red(c); o: d when Red(c) when true(w); @v: int when Red(c) when One(o); let v = 1; w = true; o = One; x = 1; y = 1; tel"),
		body("var @v: int when true(w); w: bool when Red(c); let v = 1; w = b; x = 1; y = 1; tel"),
		body("var v: int; let v = 1; x = 1; y = 1; reset var v2: int when Red(c); do v2 = a when Red(c); every b; tel"),
		body("var w: int when Red(c); @v: bool when true(v); let w = a; v = true; x = w; y = 1; tel"),
		sampled(rest + " reset var z: int; do z = @w; every b; reset var z: bool when true(z); do z = w > 1; every b;"),
		sampled(rest + " reset var @v2: int when true(v); do v2 = 1; every b;"),
		sampled(rest + " reset var @v2: int when Red(c) when true(v); do v2 = 1; every b;"),
		sampled(rest + " reset var v2: int when Red(c); do v2 = 1; reset var @v3: int when Red(c) when true(v4); v4: bool; do v3 = 2; v4 = b; every b; every b;"),
		sampled(rest + " reset var v2: bool; v3: int when true(v2); do v2 = b; v3 = 1; reset var v4: int when true(v2); do v4 = 2; every v2; every b;"),
	})
}

func TestExpressions(t *testing.T) { // P9.2, P9.3
	holds(t, []string{
		sampled("u = 1; v = true; w = -2; x = 3; y = if true then 4 else 5;"),
		body("var v: c when Red(c); let v = Green; x = 1; y = 1; tel"),
		sampled("u = 1; v = true; w = 3; x = @w; y = 4;"),
		sampled("u = 1; v = true; w = @a; x = 3; y = 4;"),
		sampled("u = @w; v = true; w = 2; x = 3; y = 4;"),
		sampled("u = 1; v = true; w = @u; x = 3; y = 4;"),
		sampled("u = 1; v = true; w = w + last w; x = last y; y = 4;"),
		sampled("u = 1; v = true; w = @last y; x = 3; y = 4;"),
		sampled("u = 1; v = true; w = 2; x = @last w; y = 4;"),
		sampled("u = u; v = v; w = w; x = x; y = y;"),
		sampled("u = (a + last y) when Red(c) when true(v); v = b when Red(c); w = (last y) when Red(c); x = 3; y = 4;"),
		sampled("u = last w when true(v); v = true; w = 2 when Red(c); x = 3; y = 4;"),
		sampled("u = @last w; v = true; w = 2 when Red(c); x = 3; y = 4;"),
		sampled("u = @w when Red(c); v = true; w = 2; x = 3; y = 4;"),
		sampled("u = @w when false(v); v = true; w = 2; x = 3; y = 4;"),
		sampled("u = @a when true(v); v = true; w = 2; x = 3; y = 4;"),
		sampled("u = @a when true(v) when Red(c); v = true; w = 2; x = 3; y = 4;"),
		sampled("u = 1; v = true; w = @a when Green(c); x = 3; y = 4;"),
		body("var c2: c; v: int when Red(c); w: int when Red(c2); let c2 = c; v = a when Red(c); w = @a when Red(c); x = 1; y = 1; tel"),
		sampled("u = 1; v = true; w = @a when true(b); x = 3; y = 4;"),
		sampled("u = 1; v = true; w = @1 when true(v); x = 3; y = 4;"),
		sampled("u = 1; v = true; w = 2; x = @a when Red(c); y = 4;"),
		sampled("u = 1; v = true; w = 2; x = 1 + (@1 when Red(c)); y = 4;"),
		sampled("u = 1; v = true; w = (1 + @w) when Red(c); x = 1; y = 4;"),
		sampled("u = 1; v = true; w = 1; x = merge c (Red -> w) (Green -> a when Green(c)); y = 4;"),
		sampled("u = 1; v = true; w = 1; x = merge c (Red -> a when Red(c)) (Green -> 1); y = 4;"),
		sampled("u = 1; v = true; w = 1; x = merge c (Red -> @a) (Green -> 1); y = 4;"),
		sampled("u = 1; v = true; w = 1; x = merge c (Red -> w) (Green -> @w); y = 4;"),
		sampled("u = 1; v = true; w = 1; x = merge c (Green -> @w) (Red -> a); y = 4;"),
		sampled("u = 1; v = true; w = 1; x = merge c (Red -> merge v (true -> u) (false -> w when false(v))) (Green -> 1); y = 4;"),
		sampled("u = 1; v = true; w = 1; x = merge c (Red -> merge v (false -> @u) (true -> u)) (Green -> 1); y = 4;"),
		sampled("u = 1; v = true; w = 1; x = merge c (Red -> @merge b (true -> u) (false -> a)) (Green -> 1); y = 4;"),
		sampled("u = 1; v = true; w = merge v (true -> u) (false -> last w when false(v)); x = 1; y = 4;"),
		sampled("u = 1; v = true; w = @merge c (Red -> w) (Green -> a); x = 1; y = 4;"),
		sampled("u = 1; v = true; w = 1; x = @merge v (true -> u) (false -> w); y = 4;"),
		sampled("u = -w when true(v); v = not (b when Red(c)); w = 0 fby (1 + w -> pre w); x = 3; y = 4;"),
		sampled("u = 1; v = true; w = if v then w else a when Red(c); x = 3; y = 4;"),
		sampled("u = 1; v = true; w = if v then w else @a; x = 3; y = 4;"),
		sampled("u = 1; v = true; w = if @b then a else a; x = 3; y = 4;"),
		sampled("u = 1; v = true; w = 2; x = a + @w * w; y = 4;"),
		sampled("u = 1; v = true; w = 2; x = -@w; y = 4;"),
		sampled("u = 1; v = true; w = 2; x = 1 fby @w; y = 4;"),
		sampled("u = 1; v = true; w = 2; x = a -> @w; y = 4;"),
		sampled("u = 1; v = true; w = 2; x = @w -> w; y = 4;"),
		sampled("u = 1; v = true; w = 2; x = pre @w; y = 4;"),
		sampled("u = 1; v = w > @a; w = a; x = w; y = 4;"),
	})
}

func TestCalls(t *testing.T) { // P9.3
	holds(t, []string{
		sampled("u = 1; v = true; w = f(a when Red(c)); x = f(a); y = f(1);"),
		sampled("u = 1; v = true; w = f(@a); x = 3; y = 4;"),
		sampled("u = 1; v = true; w = 1; x = f(@w); y = 4;"),
		sampled("u = 1; (w, v) = h(1, b when Red(c)) every v; x = 3; y = 4;"),
		sampled("u = 1; (w, v) = h(w, @b); x = 3; y = 4;"),
		sampled("u = 1; (w, v) = h(@a, b); x = 3; y = 4;"),
		sampled("u = 1; (w, v) = h(w, v) every @b; x = 3; y = 4;"),
		sampled("u = 1; (w, v) = h(w, @b) every b; x = 3; y = 4;"),
		sampled("w = 1; @(u, v) = h(a, b); x = 3; y = 4;"),
		sampled("w = 1; u = 2; @(x, v) = h(w, v); y = 4;"),
		sampled("u = 1; v = true; w = 2; x = 3; y = 4; () = k(a, x); () = g() every b;"),
		sampled("u = 1; v = true; w = 2; x = 3; y = 4; () = k(x, @w);"),
		sampled("u = 1; v = true; w = 2; x = 3; y = 4; () = k(@w, w) every v;"),
		sampled("u = 1; v = true; w = 2; x = 3; y = 4; () = k(a, x) every @v;"),
		sampled("u = 1; v = true; w = 2; x = 3; y = 4; () = g() every @v;"),
		sampled(rest + " reset var z: bool; z2: int; do (z2, z) = h(y, b) every x = y; every b;"),
		sampled(rest + " reset var z: bool; do z = b; () = k(a, @w); every b;"),
		sampled("u = 1; x = 3; y = 4; reset do @(w, v) = h(a, v); every b;"),
		sampled("u = 1; v = true; x = 3; y = 4; reset var z: bool; do @(w, z) = h(a, b); every b;"),
		sampled("u = 1; x = 3; w = 1; reset do @(y, v) = h(w, v); every b;"),
		sampled("u = 1; x = 3; w = 1; reset var z: int when Red(c); z2: int; do @(y, v) = h(w, v); z = w; z2 = z; every b;"),
		sampled("u = 1; v = true; w = 2; reset var z: bool when Green(c); x2: int when Green(c); do (x2, z) = h(a when Green(c), z); x = 3; y = 4; every b;"),
		sampled("u = 1; v = true; w = 2; reset var z: bool when Green(c); do @(x, z) = h(w, v); y = 4; every b;"),
	})
}

func TestResets(t *testing.T) { // P9.1, P9.3
	holds(t, []string{
		sampled("u = 1; v = true; w = 2; reset do x = a; y = x; every b;"),
		sampled("u = 1; v = true; w = 2; reset do x = a; y = x; every merge c (Red -> v) (Green -> b when Green(c));"),
		sampled("u = 1; v = true; w = 2; reset do x = a; y = x; every @v;"),
		sampled("u = 1; v = true; w = 2; reset do x = a; y = @w; every v;"),
		sampled("u = 1; v = true; w = 2; reset do x = @last w; y = 1; every v;"),
		sampled("u = 1; v = true; w = 2; reset do x = merge c (Red -> @w) (Green -> 1); y = 1; every v;"),
		sampled("u = 1; v = true; w = 2; reset do x = merge c (Red -> @1 when true(v)) (Green -> 1); y = 1; every v;"),
		sampled("u = 1; v = true; w = 2; reset do x = merge c (Red -> @merge v (true -> 1) (false -> 2)) (Green -> 1); y = 1; every v;"),
		sampled("u = 1; v = true; x = 2; y = 3; reset do @w = 1; every b;"),
		sampled("u = 1; v = true; x = 2; y = 3; reset do @w = w; every v;"),
		sampled("u = 1; v = true; x = 2; y = 3; reset do reset do @w = a; every b; every v;"),
		sampled("u = 1; v = true; w = 2; reset do reset do x = a; every b; y = last y; every b;"),
		sampled("u = 1; v = true; w = 2; reset do reset do x = a; every @v; y = last y; every b;"),
		sampled("u = 1; v = true; w = 2; reset var z: int when Red(c); do z = a when Red(c); x = merge c (Red -> z) (Green -> 1); reset do y = @z; every b; every b;"),
		sampled("u = 1; v = true; w = 2; reset var z: int when Red(c); do z = a when Red(c); x = @z; reset do y = z; every b; every b;"),
		sampled("u = 1; v = true; w = 2; reset var z: bool; do z = b; x = 1; reset var z2: bool when true(z); do y = merge z (true -> if z2 then 1 else 2) (false -> 3); z2 = z when true(z); every z; every b;"),
		sampled("u = 1; v = true; w = 2; reset var z: int when Red(c); do x = 1; z = 1; y = 3; every b; reset var z: int; do z = a; every b; reset var z: int when Red(c); do z = @a; every b;"),
	})
}

func TestSwitches(t *testing.T) { // P9.1, P9.3
	holds(t, []string{
		sampled("u = 1; v = true; w = 2; switch c | Red do x = a; y = x; | Green do x = 1; y = 3; end;"),
		sampled("u = 1; v = true; w = 2; switch merge c (Red -> v) (Green -> true) | true do x = a; y = x; | false do x = 1; y = 3; end;"),
		sampled("u = 1; v = true; w = 2; switch @v | true do x = w; y = x; | false do x = 1; y = 3; end;"),
		sampled("u = 1; v = true; w = 2; switch c | Red do x = @w; y = x; | Green do x = w; y = 3; end;"),
		sampled("u = 1; v = true; w = 2; switch c | Red do x = a; y = x; | Green do x = @w; y = 3; end;"),
		sampled("u = 1; v = true; w = 2; switch c | Red do x = @a when Red(c); y = x; | Green do x = 1; y = 3; end;"),
		sampled("u = 1; v = true; x = 2; y = 3; switch c | Red do @w = 1; | Green do w = 2; end;"),
		sampled("u = 1; v = true; x = 2; y = 3; switch c | Red do | Green do @w = 2; end;"),
		sampled("u = 1; x = 2; y = 3; w = 1; switch c | Red do @v = true; | Green do v = b; end;"),
		sampled("u = 1; v = true; w = 2; switch c | Red var z: int when true(b); do z = a when true(b); x = merge b (true -> z) (false -> 1); y = x; | Green var z: int; do z = a; x = z; y = 3; end;"),
		sampled("u = 1; v = true; w = 2; switch c | Red var z: int when true(b); do z = a when true(b); x = merge b (true -> z) (false -> 1); y = x; | Green var z: int; do z = @a when true(b); x = z; y = 3; end;"),
		sampled("u = 1; v = true; w = 2; switch c | Red var z: bool when true(b); do z = true; switch @z | true do x = 1; | false do x = 2; end; y = 3; | Green do x = 1; y = 3; end;"),
		sampled("u = 1; v = true; w = 2; switch c | Red var z: int when true(b); do z = 1; switch b | true do x = @z; | false do x = 2; end; y = 3; | Green do x = 1; y = 3; end;"),
	})
}

func TestAutomata(t *testing.T) { // P9.1, P9.3
	holds(t, []string{
		sampled("u = 1; v = true; w = 2; automaton | Up do x = a; y = x; unless b then Down until x > 3 continue Down | Down do x = 1; end;"),
		sampled("u = 1; v = true; w = 2; automaton | Up do x = a; y = x; unless merge c (Red -> v) (Green -> true) then Down | Down do x = 1; end;"),
		sampled("u = 1; v = true; w = 2; automaton | Up do x = a; y = x; until merge c (Red -> @v) (Green -> true) then Down | Down do x = 1; end;"),
		sampled("u = 1; v = true; w = 2; automaton | Up do x = w; y = x; unless @v then Down | Down do x = 1; end;"),
		sampled("u = 1; v = true; w = 2; automaton | Up do x = w; y = x; unless b then Up unless @v then Down until v then Up | Down do x = 1; end;"),
		sampled("u = 1; v = true; w = 2; automaton | Up do x = @w; y = x; until v then Down | Down do x = 1; unless v then Up end;"),
		sampled("u = 1; v = true; w = 2; automaton | Up do x = a; y = x; until b then Down until @v then Up | Down do x = w; end;"),
		sampled("u = 1; v = true; w = 2; automaton | Up do x = a; y = x; until b then Down | Down do x = 3; unless a = @w then Up until v then Down end;"),
		sampled("u = 1; v = true; w = 2; automaton | Up var z: bool when Red(c); do z = true; x = a; y = x; until merge c (Red -> z) (Green -> b when Green(c)) then Down | Down do x = 3; end;"),
		sampled("u = 1; v = true; w = 2; automaton | Up var z: bool when Red(c); do z = true; x = a; y = x; until @z then Down | Down do x = w; end;"),
		sampled("u = 1; v = true; w = 2; automaton | Up var z: bool when Red(c); do z = b when Red(c); x = a; y = x; until b then Down | Down var z: bool; do x = 3; z = b; until z then Up end;"),
		sampled("u = 1; v = true; x = 2; y = 3; automaton | Up do @w = a; unless b then Up until v then Up end;"),
		sampled("u = 1; v = true; x = 2; automaton | Up do y = 1; automaton | In do @w = a; unless b then In until v then In end; until v then Up end;"),
		sampled("u = 1; v = true; w = 2; automaton | Up var z: bool when Red(c); do z = true; x = 1; automaton | In do y = 1; unless merge c (Red -> z) (Green -> b when Green(c)) then In until @z then In end; until z then Up end;"),
	})
}

func TestUnused(t *testing.T) { // the fields that a kind does not use are ignored
	p, err := parse.Program(sampled("u = 1; v = true; w = 2; x = f(a); reset var z: c; do z = Red; switch b | true do y = last y; | false do end; every b;"))
	if err != nil {
		t.Fatal(err)
	}
	bad := tree.Name("w")
	ways := []api.Trans{{E: bad, To: "None"}}
	l := sample.Apart(&p)
	for _, e := range l.Exprs {
		if len(e.Kids) == 0 { // a constant, a variable or a last value
			e.Kids, e.Names, e.Op = []api.Expr{bad}, []string{"Green"}, api.Neg
		}
		if e.Kind == api.EInt || e.Kind == api.EBool {
			e.Name = "none"
		}
	}
	for _, q := range l.Eqs {
		switch q.Kind {
		case api.QDef:
			q.Args, q.Name, q.Has, q.Arms = []api.Expr{bad}, "f", true, []api.Arm{{Unless: ways, Until: ways}}
		case api.QCall:
			q.E, q.Arms = bad, []api.Arm{{Unless: ways, Until: ways}}
		default:
			q.Lhs, q.Name, q.Args, q.Has = []string{"w"}, "none", []api.Expr{bad}, true
			for i := range q.Arms {
				q.Arms[i].Unless, q.Arms[i].Until = ways, ways
			}
		}
	}
	for _, v := range l.Vars {
		if !v.Last {
			v.First = bad
		}
	}
	if err := clocks.Check(p); err != nil {
		t.Errorf("%v", err)
	}
}

// state is an automaton of one state, whose ways out have that condition.
func state(b api.Block, e api.Expr) api.Equation {
	l := []api.Trans{{E: e, To: "A"}}
	return api.Equation{Kind: api.QAuto, Arms: []api.Arm{{Name: "A", B: b, Unless: l, Until: l}}}
}

func TestDeep(t *testing.T) { // P1: no tree is too deep
	defer debug.SetMaxStack(debug.SetMaxStack(1 << 20))
	const deep = 300000
	e := tree.Name("x")
	for i := range deep {
		switch i % 3 {
		case 0:
			e = api.Expr{Kind: api.EFby, Kids: []api.Expr{tree.Int(1), e}}
		case 1:
			e = api.Expr{Kind: api.EUn, Op: api.Neg, Kids: []api.Expr{e}}
		case 2:
			e = api.Expr{Kind: api.EBin, Op: api.Add, Kids: []api.Expr{e, tree.Int(1)}}
		}
	}
	b := api.Block{Eqs: []api.Equation{{Kind: api.QDef, Lhs: []string{"y"}, E: e}}}
	yes, no := tree.Name("b"), api.Arm{Name: "false"}
	for i := range deep {
		switch i % 3 {
		case 0:
			b = api.Block{Eqs: []api.Equation{{Kind: api.QReset, E: yes, Arms: []api.Arm{{B: b}}}}}
		case 1:
			b = api.Block{Eqs: []api.Equation{{Kind: api.QSwitch, E: yes, Arms: []api.Arm{{Name: "true", B: b}, no}}}}
		case 2:
			b = api.Block{Eqs: []api.Equation{state(b, yes)}}
		}
	}
	ints, bools := api.Type{Kind: api.TInt}, api.Type{Kind: api.TBool}
	x := api.Var{Name: "x", T: ints}
	n := api.Node{Name: "f", Ins: []api.Var{{Name: "b", T: bools}}, Outs: []api.Var{{Name: "y", T: ints, Last: true, First: tree.Int(0)}}, B: b}
	n.B.Eqs = append(n.B.Eqs, api.Equation{Kind: api.QDef, Lhs: []string{"x"}, E: tree.Int(1)})
	for _, clock := range [][]api.On{nil, {{Ctor: "true", Var: "b"}}} {
		x.Clock = clock
		n.B.Vars = []api.Var{x}
		p := api.Program{Nodes: []api.Node{n}}
		if err := faults.First(names.Check(p), types.Check(p)); err != nil {
			t.Fatal(err)
		}
		if err := clocks.Check(p); (err == nil) != (clock == nil) || err != nil && faults.Kind(err) != api.Clock {
			t.Errorf("%v: %v", clock, err)
		}
	}
}

func TestLong(t *testing.T) { // P1: a clock of many samplings, asked for often, ends soon enough
	const long, often = 2000, 400000
	bools := api.Type{Kind: api.TBool}
	var n api.Node
	var clock []api.On
	for i := range long {
		name := string(rune(0x4e00 + i))
		v := api.Var{Name: name, T: bools, Clock: clock[:i:i]}
		n.B.Vars = append(n.B.Vars, v)
		n.B.Eqs = append(n.B.Eqs, api.Equation{Kind: api.QDef, Lhs: []string{name}, E: tree.Bool(true)})
		clock = append(clock, api.On{Ctor: "true", Var: name})
	}
	last := n.B.Vars[long-1].Name
	e := tree.Name(last)
	for range often {
		m := api.Expr{Kind: api.EMerge, Name: last, Names: []string{"true", "false"}, Kids: []api.Expr{tree.Bool(true), tree.Bool(false)}}
		e = api.Expr{Kind: api.EBin, Op: api.And, Kids: []api.Expr{e, m}}
	}
	n.B.Eqs[long-1].E = e
	p := api.Program{Nodes: []api.Node{n}}
	if err := faults.First(names.Check(p), types.Check(p), clocks.Check(p)); err != nil {
		t.Errorf("%v", err)
	}
}
