package types_test

import (
	"runtime/debug"
	"strings"
	"testing"

	"metronome/api"
	"metronome/faults"
	"metronome/names"
	"metronome/parse"
	"metronome/sample"
	"metronome/tree"
	"metronome/types"
)

// read is the program of a text, and where its error stands.
func read(t *testing.T, text string) (api.Program, api.Pos) {
	t.Helper()
	text, at := sample.Cut(text)
	p, err := parse.Program(text)
	if err == nil {
		err = names.Check(p)
	}
	if err != nil {
		t.Fatalf("%s: %v", text, err)
	}
	return p, at
}

const declared = "type c = Red | Green; type d = One; type e = North | East | South;\n"

// env are variables of all types.
var env = []api.Var{
	{Name: "a", T: api.Type{Kind: api.TInt}},
	{Name: "b", T: api.Type{Kind: api.TBool}},
	{Name: "c", T: api.Type{Kind: api.TEnum, Name: "c"}},
	{Name: "d", T: api.Type{Kind: api.TEnum, Name: "d"}},
	{Name: "e", T: api.Type{Kind: api.TEnum, Name: "e"}},
	{Name: "x", T: api.Type{Kind: api.TInt}, Last: true},
	{Name: "y", T: api.Type{Kind: api.TBool}, Last: true, Clock: []api.On{{Ctor: "Red", Var: "c"}}},
}

func TestExpr(t *testing.T) { // P8.1
	p, _ := read(t, declared)
	for text, want := range map[string]string{
		"0": "int", "-3": "int", "true": "bool", "false": "bool", "Red": "c", "Green": "c", "One": "d", "South": "e",
		"a": "int", "b": "bool", "c": "c", "d": "d", "y": "bool", "last x": "int", "last y": "bool", "last c": "c",
		"-a": "int", "@-b": "", "@-c": "", "not b": "bool", "@not a": "", "@not c": "",
		"a + 1": "int", "a - x": "int", "a * a": "int", "a / a": "int", "a mod 2": "int",
		"@a + b": "", "@b + a": "", "@b + b": "", "@c * c": "", "@1 + true": "",
		"b and y": "bool", "b or true": "bool", "b xor b": "bool", "@a and a": "", "@a or b": "", "@b xor a": "", "@c and c": "",
		"a = 1": "bool", "b = true": "bool", "c = Red": "bool", "c <> Green": "bool", "@a = b": "", "@c = d": "", "@c <> North": "", "@b <> a": "",
		"a < 1": "bool", "a <= x": "bool", "a > a": "bool", "a >= 0": "bool", "@b < b": "", "@c >= c": "", "@a > b": "",
		"if b then 1 else a": "int", "if y then c else Red": "c", "@if a then 1 else 2": "", "@if b then 1 else b": "", "@if b then c else d": "", "@if c then b else b": "",
		"0 fby a": "int", "Red fby c": "c", "@0 fby b": "", "@Red fby d": "", "@true fby a": "",
		"a -> x": "int", "c -> c": "c", "@a -> b": "", "@c -> d": "",
		"pre a": "int", "pre d": "d", "pre pre b": "bool",
		"a when true(b)": "int", "c when false(b)": "c", "b when Red(c)": "bool", "last x when East(e)": "int", "y when One(d) when false(y)": "bool",
		"@a when Red(b)": "", "@a when true(c)": "", "@a when One(c)": "", "@a when true(a)": "", "@a when Red(a)": "",
		"(@pre a) when Red(c)": "", "(@0 fby a) when Red(c)": "", "(@a -> a) when Red(c)": "", "(@1 + (if b then -(pre a) else 2)) when Red(c)": "", "pre (a when Red(c))": "int",
		"(@(pre a when Red(c)) + 1) when false(b)": "",
		"merge b (true -> a) (false -> 1)":         "int", "merge b (false -> b) (true -> y)": "bool", "merge c (Green -> Red) (Red -> c)": "c", "merge d (One -> a)": "int",
		"merge e (South -> 1) (North -> 2) (East -> 3)": "int", "merge c (Red -> pre a) (Green -> a)": "int",
		"@merge c (Red -> a)": "", "@merge c (Red -> a) (Red -> a)": "", "@merge c (Red -> a) (Green -> a) (Red -> a)": "", "@merge c (Red -> a) (One -> a)": "", "@merge c (Red -> a) (Green -> a) (true -> a)": "",
		"@merge a (Red -> a) (Green -> a)": "", "@merge b (true -> a)": "", "@merge a (true -> a) (false -> a)": "", "@merge e (North -> 1) (East -> 2) (North -> 3)": "",
		"@merge c (Red -> a) (Green -> b)": "", "@merge c (Red -> c) (Green -> d)": "", "@merge e (South -> a) (North -> a) (East -> b)": "",
		"(@a + b) + (b and a)": "", "(a + a) + (@b and a)": "", "@if a then 1 else (1 + 2)": "", "if a then (@1 + b) else 2": "", "if ((@a and b)) then 1 + b else 2": "",
		"merge a (Red -> a) (Green -> @-b)": "", "(@-b) when Blue(a)": "", "pre (@-c)": "", "0 fby (@-c)": "", "a -> (@a + b)": "",
		"1 + (2 * (@3 - true))": "", "not (@1 + true)": "",
	} {
		text, at := sample.Cut(text)
		e, err := parse.Expr(strings.Replace(text, "Blue", "Red", 1))
		if err != nil {
			t.Fatalf("%s: %v", text, err)
		}
		typ, err := types.Expr(p, env, e)
		if where := faults.Where(err); name(typ) != want || where != at || (err == nil) != (want != "") || err != nil && faults.Kind(err) != api.Typed {
			t.Errorf("%s: %q, %v, not %q at %v", text, name(typ), err, want, at)
		}
		if oracle, wrong := typeOf(p, env, e); err == nil && oracle != typ || faults.Text(wrong) != faults.Text(err) {
			t.Errorf("%s: %v, %v, not %v, %v", text, typ, err, oracle, wrong)
		}
	}
}

// name is the name of a type; "", if it is the zero value.
func name(t api.Type) string {
	switch t {
	case api.Type{Kind: api.TInt}:
		return "int"
	case api.Type{Kind: api.TBool}:
		return "bool"
	case api.Type{}:
		return ""
	}
	if t.Kind != api.TEnum {
		return "none"
	}
	return t.Name
}

// body is a program with that block, of a node with inputs of all types and the outputs x and y (a last value); f, g and h are nodes.
func body(s string) string {
	return declared + "node f(a: int) returns (x: int) let x = a; tel\nnode g() returns () let tel node h(a: int; b: bool; c: c) returns (x: c; y: int) let x = c; y = a; tel\n" +
		"node main(a: int; b: bool; c: c; d: d; e: e) returns (x: int; last y: int = 0)\n" + s
}

func holds(t *testing.T, l []string) {
	t.Helper()
	for _, text := range l {
		p, at := read(t, text)
		err := types.Check(p)
		if faults.Where(err) != at || (err == nil) != (at == api.Pos{}) || err != nil && faults.Kind(err) != api.Typed {
			t.Errorf("%s: %v, not at %v", text, err, at)
		}
		if want := check(p); faults.Text(err) != faults.Text(want) {
			t.Errorf("%s: %v, not %v", text, err, want)
		}
	}
}

func TestVariables(t *testing.T) { // P8.2
	holds(t, []string{
		"", declared, body("let x = 1; y = x; tel"),
		declared + "node f(last a: int = 1; last b: bool = true; last c: c = Red; last d: d = One) returns () let tel",
		declared + "node f(last @a: int = true) returns () let tel",
		declared + "node f(last a: int = 2; last @b: bool = 1) returns () let tel",
		declared + "node f(last @c: c = One) returns () let tel",
		declared + "node f() returns (last @x: int = Red) let x = true; tel",
		declared + "node f() returns () var last @x: bool = 0; let x = 1; tel",
		declared + "node f(a: int when true(b); b: bool when Green(c)) returns (c: c when true(b)) let c = Red; tel",
		declared + "node f(@a: int when Red(b); b: bool) returns () let tel",
		declared + "node f(@a: int when true(a)) returns () let tel",
		declared + "node f(b: bool when true(b)) returns () let tel",
		declared + "node f(@a: int when true(b)) returns () let tel",
		declared + "node f(@a: int when true(b)) returns () var b: bool; let b = true; tel",
		declared + "node f(c: c; @a: int when Red(c) when One(c)) returns () let tel",
		declared + "node f(c: c) returns (@x: int when One(c)) let x = true; tel",
		declared + "node f(last @a: int = true; b: int when true(b)) returns () let tel",
		declared + "node f(@b: int when true(b); last a: int = true) returns () let tel",
		declared + "node f(c: c) returns () var v: int when Red(w); w: c when Green(c); u: bool when One(o); o: d; let v = 1; w = c; u = true; o = One; tel",
		declared + "node f(c: c) returns () var @v: int when One(w); w: c when Green(c); let v = 1; w = c; tel",
		declared + "node f(c: c) returns () var v: int when Red(w); @w: c when Green(c) when true(c); let v = true; w = c; tel",
		declared + "node f(c: c) returns () var v: int; let v = 1; reset var @v2: int when true(c); do v2 = 1; every true; tel",
		declared + "node f(c: c) returns () var v: bool; let v = true; reset var v2: int when true(v); do v2 = 1; every true; tel",
		declared + "node f() returns () let tel node g(last @a: int = true) returns () let tel",
		declared + "node f() returns (x: int) let @x = true; tel node g(last a: int = true) returns () let tel",
	})
}

func TestDefinitions(t *testing.T) { // P8.2
	holds(t, []string{
		body("let x = a + 1; y = 0 fby y; tel"),
		body("let @x = b; y = true; tel"),
		body("let x = 1; @y = c; tel"),
		body("let x = 1; y = 1 + (@1 + true); tel"),
		body("var v: c; w: d; let v = c; @w = c; x = 1; y = 1; tel"),
		body("var v: c; w: d; let v = Green; w = One; x = 1; y = 1; tel"),
		body("let x = f(1); y = f(a); () = g(); tel"),
		body("let @x = f(); y = 1; tel"),
		body("let @x = f(true, true); y = 1; tel"),
		body("let @x = g(); y = true; tel"),
		body("let @(x, y) = f(1); tel"),
		body("let @() = f(true); x = 1; y = 1; tel"),
		body("let x = f(@b); y = true; tel"),
		body("let x = f(1 + (@1 and a)); y = true; tel"),
		body("var v: c; let (v, x) = h(1, true, Red); y = 1; tel"),
		body("var v: c; let (v, x) = h(1, @1, true); y = 1; tel"),
		body("var v: c; let (v, x) = h(1, true, @One); y = 1; tel"),
		body("var v: c; let @(x, v) = h(1, true, Red); y = 1; tel"),
		body("var v: d; let @(v, y) = h(1, true, Red); x = true; tel"),
		body("var v: c; u: bool; let @(v, u) = h(1, true, Red); y = 1; x = 1; tel"),
		body("var v: c; let (v, x) = h(1, true, Red) every b; y = f(1) every x = a; tel"),
		body("let x = f(1) every @a; y = true; tel"),
		body("let x = f(1) every @c; y = true; tel"),
		body("let x = f(1) every true and (@1 + true); y = true; tel"),
		body("var v: bool; let @v = f(1) every a; x = 1; y = 1; tel"),
		body("let x = f(@true) every a; y = true; tel"),
	})
}

func TestResets(t *testing.T) { // P8.2
	holds(t, []string{
		body("let reset do x = 1; y = 2; every b and not b; tel"),
		body("let reset do x = 1; y = 2; every @a; tel"),
		body("let reset do x = 1; y = 2; every @c; tel"),
		body("let reset do x = 1; y = 2; every not (@a and b); tel"),
		body("let reset do @x = true; y = 2; every a; tel"),
		body("let x = 1; y = 1; reset var @v: int when Red(b); do v = 1; every a; tel"),
		body("let reset do reset do x = 1; every @a; y = true; every b; tel"),
	})
}

func TestSwitches(t *testing.T) { // P8.2
	holds(t, []string{
		body("let switch c | Red do x = 1; y = 1; | Green do x = 2; y = 2; end; tel"),
		body("let switch b and b | false do x = 1; y = 1; | true do x = 2; y = 2; end; tel"),
		body("let switch d | One do x = 1; y = 1; end; tel"),
		body("let switch e | South do x = 1; y = 1; | North do x = 1; y = 1; | East do x = 1; y = 1; end; tel"),
		body("let switch @a | Red do x = 1; y = 1; end; tel"),
		body("let switch (@a + 1) | Red do x = 1; y = 1; end; tel"),
		body("let switch not (@a and b) | Red do x = 1; y = 1; end; tel"),
		body("let switch c | Red do x = 1; y = 1; | @Red do x = true; y = 1; end; tel"),
		body("let switch c | @true do x = true; y = 1; | Red do x = 1; y = 1; end; tel"),
		body("let switch b | @Red do x = true; y = 1; | Red do x = 1; y = 1; end; tel"),
		body("let switch c | Red do x = 1; y = 1; | Green do x = 1; y = 1; | @One do x = 1; y = 1; end; tel"),
		body("let switch c | Red do x = 1; y = 1; | Green do x = 1; y = 1; | @Green do x = 1; y = 1; end; tel"),
		body("let switch c | Red do x = 1; @y = true; | One do x = 1; y = 1; end; tel"),
		body("let @switch c | Red do x = 1; y = 1; end; tel"),
		body("let @switch c | Green do x = 1; y = 1; end; tel"),
		body("let @switch b | true do x = 1; y = 1; end; tel"),
		body("let @switch e | East do x = 1; y = 1; | North do x = 1; y = 1; end; tel"),
		body("let switch c | Red do @x = b; y = 1; end; tel"),
		body("let switch c | Red do switch b | true do x = 1; | false do x = 2; end; y = 1; | Green do x = 1; y = 1; end; tel"),
		body("let switch c | Red do switch b | true do x = 1; | @Green do x = 2; end; y = 1; | Green do x = 1; y = 1; end; tel"),
		body("let switch c | Red do @switch b | true do x = 1; end; y = 1; | true do x = 1; y = 1; end; tel"),
		body("let switch c | Red do switch b | true do x = 1; | false do x = 2; end; y = 1; | @Red do x = 1; y = 1; end; tel"),
		body("let switch b | true var v: int; do v = 1; x = v; y = v; | false var v: bool; do v = true; x = if v then 1 else 2; @y = v; end; tel"),
		body("let switch b | true var v: c; do v = Red; x = 1; y = 1; | false var v: d; do x = 1; y = 2; @v = Red; end; tel"),
	})
}

func TestAutomata(t *testing.T) { // P8.2
	holds(t, []string{
		body("let automaton | Up do x = 1; y = 1; unless a > 3 then Down until b then Up | Down do x = last y; y = 2; until x = a continue Up end; tel"),
		body("let automaton | Up do @x = true; y = 1; unless b then Up until a then Up end; tel"),
		body("let automaton | Up do x = true; y = 1; unless @a then Up until a then Up end; tel"),
		body("let automaton | Up do x = true; y = 1; unless b then Up unless @c then Up end; tel"),
		body("let automaton | Up do x = true; y = 1; unless b and (@c and b) then Up end; tel"),
		body("let automaton | Up do x = 1; y = 1; until b then Up until @a then Up | Down do x = true; y = 2; end; tel"),
		body("let automaton | Up do x = 1; y = 1; until @1 < true then Up end; tel"),
		body("let automaton | Up do x = 1; y = 1; @unless pre b then Up end; tel"),
		body("let automaton | Up do x = 1; y = 1; @until b and (b -> b) then Up end; tel"),
		body("let automaton | Up do x = 1; y = 1; @until not (true fby b) then Up end; tel"),
		body("let automaton | Up do x = 1; y = 1; until @pre a then Up end; tel"),
		body("let automaton | Up do x = 1; y = 1; until last y = 2 then Up end; tel"),
		body("let automaton | Up var v: bool; do v = b; x = 1; y = 1; until v then Up | Down var v: int; do v = 1; x = v; y = 1; until v = 1 then Up end; tel"),
		body("let automaton | Up var v: bool; do v = b; x = 1; y = 1; until v then Up | Down var v: int; do v = 1; x = v; y = 1; until @v then Up end; tel"),
		body("let automaton | Up do automaton | In do x = 1; @y = true; unless b then In end; until a then Up end; tel"),
		body("let automaton | Up do automaton | In do x = 1; y = 2; until @a then In end; until a then Up end; tel"),
		body("let automaton | Up do automaton | In do x = 1; y = 2; until b then In end; until @a then Up end; tel"),
	})
}

func TestFirst(t *testing.T) { // P8.2: a first value is an expression without variables
	at := func(e api.Expr, col int) api.Expr {
		e.At = api.Pos{Line: 7, Col: col}
		return e
	}
	one, yes := at(tree.Int(1), 1), at(tree.Bool(true), 2)
	read, last := at(tree.Name("b"), 3), at(api.Expr{Kind: api.ELast, Name: "b"}, 4)
	when := func(kid api.Expr) api.Expr { return at(tree.When(kid, api.On{Ctor: "true", Var: "b"}), 5) }
	merge := func(kid api.Expr) api.Expr {
		return at(api.Expr{Kind: api.EMerge, Name: "b", Names: []string{"true", "false"}, Kids: []api.Expr{kid, kid}}, 6)
	}
	op := func(kind, op byte, kids ...api.Expr) api.Expr {
		return at(api.Expr{Kind: kind, Op: op, Kids: kids}, 8)
	}
	for i, c := range []struct {
		first api.Expr
		col   int
	}{
		{yes, 0}, {one, 9}, {read, 3}, {last, 4}, {when(yes), 5}, {when(one), 5}, {when(read), 3}, {merge(yes), 6}, {merge(last), 4},
		{op(api.EBin, api.Lt, one, one), 0}, {op(api.EBin, api.Lt, one, yes), 8}, {op(api.EBin, api.Add, one, one), 9},
		{op(api.EFby, 0, yes, yes), 0}, {op(api.EPre, 0, read), 3}, {op(api.EArrow, 0, yes, when(one)), 5}, {op(api.EIf, 0, yes, yes, merge(yes)), 6},
		{op(api.EUn, api.Not, op(api.EPre, 0, yes)), 0}, {op(api.EUn, api.Not, one), 8}, {op(api.EIf, 0, yes, yes, yes), 0},
	} {
		v := api.Var{Name: "b", T: boolean, Last: true, First: c.first, At: api.Pos{Line: 7, Col: 9}}
		own := api.Block{Vars: []api.Var{v}, Eqs: []api.Equation{{Kind: api.QDef, Lhs: []string{"b"}, E: yes}}}
		for j, n := range []api.Node{
			{Ins: []api.Var{v}},
			{Outs: []api.Var{v}, B: api.Block{Eqs: own.Eqs}},
			{B: own},
			{B: api.Block{Eqs: []api.Equation{{Kind: api.QReset, E: yes, Arms: []api.Arm{{B: own}}}}}},
		} {
			p := api.Program{Nodes: []api.Node{n}}
			err := types.Check(p)
			if faults.Where(err).Col != c.col || (err == nil) != (c.col == 0) || faults.Text(err) != faults.Text(check(p)) {
				t.Errorf("%d, %d: %v, not in column %d", i, j, err, c.col)
			}
		}
		v.Last = false
		if err := types.Check(api.Program{Nodes: []api.Node{{Ins: []api.Var{v}}}}); err != nil {
			t.Errorf("%d: not last: %v", i, err)
		}
	}
}

func TestUnused(t *testing.T) { // the fields that a kind does not use are ignored
	p, _ := read(t, body("let x = f(a); reset do switch b | true do y = a; | false do end; every b; tel"))
	bad := api.Expr{Kind: api.EUn, Op: api.Neg, Kids: []api.Expr{tree.Bool(true)}}
	ways := []api.Trans{{E: bad, To: "None"}}
	eqs := p.Nodes[3].B.Eqs
	eqs[0].E = bad
	inner := &eqs[1].Arms[0].B.Eqs[0]
	for _, q := range []*api.Equation{&eqs[1], inner} {
		q.Lhs, q.Name, q.Args, q.Has = []string{"z"}, "none", []api.Expr{bad}, true
		for i := range q.Arms {
			q.Arms[i].Unless, q.Arms[i].Until = ways, ways
		}
	}
	def := &inner.Arms[0].B.Eqs[0]
	def.Args, def.Name, def.Has, def.Arms = []api.Expr{bad}, "f", true, []api.Arm{{Unless: ways}}
	p.Nodes[3].Ins[0].First = bad
	if err := types.Check(p); err != nil {
		t.Errorf("%v", err)
	}
	e := api.Expr{Kind: api.EIf, Op: api.Neg, N: 3, Name: "none", Names: []string{"None"}, Kids: []api.Expr{tree.Bool(true), tree.Int(1), tree.Int(2)}}
	if typ, err := types.Expr(p, nil, e); err != nil || typ != number {
		t.Errorf("%v %v", typ, err)
	}
}

func TestDeep(t *testing.T) { // P1: no tree is too deep
	defer debug.SetMaxStack(debug.SetMaxStack(1 << 20))
	const deep = 300000
	e := tree.Name("x")
	for i := range deep {
		switch i % 3 {
		case 0:
			e = tree.When(e, api.On{Ctor: "true", Var: "b"})
		case 1:
			e = api.Expr{Kind: api.EUn, Op: api.Neg, Kids: []api.Expr{e}}
		case 2:
			e = api.Expr{Kind: api.EBin, Op: api.Add, Kids: []api.Expr{tree.Int(1), e}}
		}
	}
	ins := []api.Var{{Name: "x", T: number}, {Name: "b", T: boolean}}
	if typ, err := types.Expr(api.Program{}, ins, e); err != nil || typ != number {
		t.Errorf("%v %v", typ, err)
	}
	b := api.Block{Eqs: []api.Equation{{Kind: api.QDef, Lhs: []string{"y"}, E: e}}}
	for i := range deep {
		q := api.Equation{Kind: []byte{api.QReset, api.QAuto, api.QSwitch}[i%3], E: tree.Name("b"), Arms: []api.Arm{{Name: "true", B: b}}}
		if q.Kind == api.QSwitch {
			q.Arms = append(q.Arms, api.Arm{Name: "false"})
		}
		b = api.Block{Eqs: []api.Equation{q}}
	}
	p := api.Program{Nodes: []api.Node{{Name: "f", Ins: ins, Outs: []api.Var{{Name: "y", T: number, Last: true}}, B: b}}}
	p.Nodes[0].Outs[0].First = tree.Int(0)
	if err := types.Check(p); err != nil {
		t.Errorf("%v", err)
	}
	ins[0].T = boolean
	if err := types.Check(p); faults.Kind(err) != api.Typed {
		t.Errorf("%v", err)
	}
}

func TestWide(t *testing.T) { // P1: a type of so many constructors, asked for at once, ends soon enough
	const many = 200000
	c := api.Enum{Name: "c"}
	m := api.Expr{Kind: api.EMerge, Name: "x"}
	q := api.Equation{Kind: api.QSwitch, E: tree.Name("x")}
	for i := range many {
		s := strings.Repeat("C", 1+i%5) + string(rune(0x10000+i/5))
		c.Ctors, m.Names, m.Kids = append(c.Ctors, s), append(m.Names, s), append(m.Kids, tree.Ctor(s))
		q.Arms = append(q.Arms, api.Arm{Name: s})
	}
	x := api.Var{Name: "x", T: api.Type{Kind: api.TEnum, Name: "c"}}
	p := api.Program{Enums: []api.Enum{c}, Nodes: []api.Node{{Ins: []api.Var{x}, B: api.Block{Eqs: []api.Equation{q, q}}}}}
	if typ, err := types.Expr(p, []api.Var{x}, m); err != nil || typ != x.T {
		t.Errorf("%v %v", typ, err)
	}
	if err := types.Check(p); err != nil {
		t.Errorf("%v", err)
	}
}
