package inits_test

import (
	"runtime/debug"
	"slices"
	"strings"
	"testing"

	"metronome/api"
	"metronome/clocks"
	"metronome/faults"
	"metronome/inits"
	"metronome/names"
	"metronome/parse"
	"metronome/sample"
	"metronome/tree"
	"metronome/types"
)

// body is a program with that block, of a node with the inputs a, b and c and the outputs x and y; f and g are nodes.
func body(s string) string {
	return "type c = Red | Green;\nnode f(a: int; b: bool) returns (x: int) let x = a; tel\nnode g() returns () let tel\nnode main(a: int; b: bool; c: c) returns (x: int; last y: int = 0)\n" + s
}

// lateVars is a block with variables of which v, d and k are late and w is not; p and q are what a test defines.
func lateVars(s string) string {
	return body("var v: int; w: int; d: bool; k: c; p: int; q: bool; let v = pre a; w = 0 -> pre a; d = pre b; k = pre c; " + s + " tel")
}

// rest defines what a test does not.
const rest = " p = 1; q = b; x = 1; y = 2;"

func right(p api.Program) error {
	return faults.First(names.Check(p), types.Check(p), clocks.Check(p))
}

func holds(t *testing.T, l []string) {
	t.Helper()
	for _, marked := range l {
		text, at := sample.Cut(marked)
		p, err := parse.Program(text)
		if err := faults.First(err, right(p)); err != nil {
			t.Fatalf("%s: %v", marked, err)
		}
		err = inits.Check(p)
		if faults.Where(err) != at || (err == nil) != (at == api.Pos{}) || err != nil && faults.Kind(err) != api.Init {
			t.Errorf("%s: %v, not at %v", marked, err, at)
		}
		if want := check(p); faults.Text(err) != faults.Text(want) {
			t.Errorf("%s: %v, not %v", marked, err, want)
		}
	}
}

func TestLate(t *testing.T) { // P10.1
	for _, c := range []struct{ eqs, want string }{
		{"p = a; q = b; r = c; s = 1;", ""},
		{"p = pre a; q = pre b; r = pre c; s = pre 1;", "p q r s"},
		{"s = pre a; r = pre c; q = b; p = a;", "r s"},
		{"p = 0 -> pre a; q = b; r = c; s = a;", ""},
		{"p = pre a -> 0; q = b; r = c; s = a;", "p"},
		{"p = 0 fby pre a; q = b; r = c; s = a;", ""},
		{"p = 1 fby p; q = true -> pre q; r = c; s = s;", ""},
		{"p = q1 -> 1; q = b; r = c; s = a;", "p q1"},
		{"p = -(pre a); q = not (pre b); r = c; s = 1 + pre 2;", "p q s"},
		{"p = pre 1 * 2; q = b; r = c; s = (1 -> pre 2) * (3 fby a);", "p"},
		{"p = if pre b then 1 else 2; q = b; r = if b then pre c else Red; s = if b then 1 else pre 2;", "p r s"},
		{"p = merge b (true -> pre 1) (false -> 2); q = b; r = merge c (Red -> Red) (Green -> pre c when Green(c)); s = merge q (true -> 1) (false -> 2);", "p r"},
		{"p = 1; q = pre b; r = c; s = merge q (true -> 1) (false -> 2);", "q"},
		{"p = last y; q = b; r = c; s = last p2 + 1;", ""},
		{"p = s; s = q1; q = b; r = c;", "p s q1"},
		{"p = s; s = p; q = b; r = c;", ""},
		{"p = s; s = if q then p else pre p; q = b; r = c;", "p s"},
		{"p = s; s = (if q then p else 1) -> pre p; q = b; r = c;", ""},
		{"p = s; s = (if q then p else 1) -> pre p; q = pre b; r = c;", "p q s"},
		{"p = f(s, b); s = pre a; q = b; r = c;", "s"},
		{"reset do p = pre a; s = 1; every b; q = b; r = c;", ""},
		{"reset do p = q1; every b; s = p; q = b; r = c;", "q1"},
		{"switch b | true do p = pre a; | false do p = q1; end; s = p + q1; q = b; r = c;", "s q1"},
		{"automaton | A do p = pre a; end; s = x; q = b; r = c;", ""},
	} {
		eqs := c.eqs
		if strings.Contains(eqs, "q1") {
			eqs += " q1 = pre a;"
		} else {
			eqs += " q1 = a;"
		}
		p, err := parse.Program(body("var p: int; q: bool; r: c; s: int; q1: int; last p2: int = 3; let p2 = 1; x = pre 1; y = 2; " + eqs + " tel"))
		if err := faults.First(err, right(p)); err != nil {
			t.Fatalf("%s: %v", c.eqs, err)
		}
		b := p.Nodes[2].B
		if l := inits.Late(b); strings.Join(l, " ") != c.want || !slices.Equal(l, lateOf(b)) {
			t.Errorf("%s: %v, not %v", c.eqs, l, c.want)
		}
	}
	when := tree.When(tree.Name("v"), api.On{Ctor: "true", Var: "w"})
	b := api.Block{Vars: []api.Var{{Name: "w"}, {Name: "u"}, {Name: "v"}}, Eqs: []api.Equation{{Kind: api.QDef, Lhs: []string{"u"}, E: when}}}
	for name, want := range map[string]string{"v": "u v", "w": "w"} {
		late := api.Block{Vars: b.Vars, Eqs: append(b.Eqs[:1:1], api.Equation{Kind: api.QDef, Lhs: []string{name}, E: api.Expr{Kind: api.EPre, Kids: []api.Expr{tree.Int(1)}}})}
		if l := strings.Join(inits.Late(late), " "); l != want {
			t.Errorf("sampled, %s late: %s", name, l)
		}
	}
	if l := inits.Late(api.Block{}); len(l) > 0 {
		t.Errorf("of nothing: %v", l)
	}
}

func TestLateWithin(t *testing.T) { // P10.1: a block within has late variables of its own; those of the blocks around it are not late for Late
	p, err := parse.Program(lateVars("reset var i: int; j: int; do i = v; j = pre i; reset var l: int; do l = pre j; every b; every b;" + rest))
	if err := faults.First(err, right(p)); err != nil {
		t.Fatal(err)
	}
	b := p.Nodes[2].B
	if l := inits.Late(b); !slices.Equal(l, []string{"v", "d", "k"}) {
		t.Errorf("around: %v", l)
	}
	if l := inits.Late(b.Eqs[4].Arms[0].B); !slices.Equal(l, []string{"j"}) {
		t.Errorf("within: %v", l)
	}
}

func TestVariables(t *testing.T) { // P10.2
	holds(t, []string{
		"", "type c = Red;", lateVars(rest),
		body("var last @v: int = 0; let v = pre a; x = 1; y = 1; tel"),
		body("var last v: int = 0; let v = 0 -> pre a; x = 1; y = 1; tel"),
		body("var last v: int = 0; w: int; last @u: int = 1; let u = w; w = pre v; v = last u; x = 1; y = 1; tel"),
		body("var u: int; last @v: int = 0; last w: int = 1; let u = pre a; v = u; w = u; x = 1; y = pre 1; tel"),
		body("var last v: int = 0; let reset do @v = pre a; every b; x = 1; y = 1; tel"),
		body("var v: int; let v = pre a; x = 1; reset var last @w: int = 3; do w = v; y = 1; every b; tel"),
		body("var v: int; let v = pre a; x = 1; reset var last w: int = 3; do w = 2; y = @pre v; every b; tel"),
	})
}

func TestDefinitions(t *testing.T) { // P10.2
	holds(t, []string{
		body("let x = 0 -> pre x; y = 0 fby y; tel"),
		body("let @x = pre x; y = 1; tel"),
		body("let x = 1; @y = pre a; tel"),
		body("var v: int; let v = pre a; @x = v; y = 1; tel"),
		body("var v: int; let v = pre a; x = 0 -> v; y = 1 fby a; tel"),
		body("var v: int; let v = pre a; x = 0 -> @pre v; y = 1; tel"),
		body("var v: int; let v = pre a; x = @0 fby v; y = 1; tel"),
		body("var v: int; let v = pre a; x = last y; y = @1 fby v; tel"),
		body("var v: int; let v = pre a; x = @v -> 1; y = 1; tel"),
		body("let x = @pre pre a; y = 1; tel"),
		body("let x = 0 -> @pre pre a; y = 1; tel"),
		body("let x = 0 -> @pre (pre a); y = 1; tel"),
		body("let x = 0 -> pre (0 -> pre a); y = 1; tel"),
		body("let x = 0 -> pre (0 fby a); y = @0 fby pre x; tel"),
		body("let @x = 1 + pre a; y = 1; tel"),
		body("let x = 0 -> 1 + pre a; y = @(1 + pre a) -> 1; tel"),
		lateVars("p = @merge d (true -> 1) (false -> 2); q = b; x = 1; y = 2;"),
		lateVars("p = merge q (true -> 1) (false -> 2); q = b; x = p; y = 2;"),
		lateVars("p = merge q (true -> v when true(q)) (false -> 2); q = b; @x = p; y = 2;"),
		lateVars("p = merge b (true -> 0 -> pre (a when true(b))) (false -> 2); q = b; x = p; y = 2;"),
		lateVars("p = @merge k (Red -> 1) (Green -> 2); q = b; x = 1; y = 2;"),
		lateVars("p = @merge d (true -> 0 fby 1) (false -> 0 -> 1); q = b; x = 1; y = 2;"),
		lateVars("p = @v -> 1; q = b; x = 1; y = 2;"),
		lateVars("p = v + (@v -> 1); q = b; x = 1; y = 2;"),
		lateVars("p = if d then @0 fby v else 0 fby v; q = b; x = 1; y = 2;"),
		lateVars("p = -v; q = d; x = 0 -> p; y = 0 -> pre (0 -> p);"),
		lateVars("p = if d then w else w; q = not d; @x = p; y = 2;"),
		lateVars("p = last y; q = b; x = p; y = last y + w;"),
		lateVars("p = w; q = w > 3; x = p; y = 2;"),
		lateVars("p = w; q = v > 3; x = p; y = 2; reset var z: int; do z = @merge q (true -> 1) (false -> 2); every b;"),
		body("var v: int when Red(c); w: int; let v = pre (a when Red(c)); @x = merge c (Red -> v) (Green -> 1); y = 2; w = 0 -> x; tel"),
		body("var v: int when Red(c); let v = 0 -> pre (a when Red(c)); x = merge c (Red -> v) (Green -> 1); y = 2; tel"),
		body("var d: bool; v: int when true(d); let d = pre b; v = @a when true(d); x = 1; y = 2; tel"),
		body("var d: bool; v: int when true(d); let d = b; v = a when true(d); x = 1; y = 2; tel"),
		body("var z: int; v: int when true(b); let z = pre a; v = z when true(b); @x = merge b (true -> v) (false -> 1); y = 2; tel"),
	})
}

func TestCalls(t *testing.T) { // P10.2
	holds(t, []string{
		lateVars("p = f(w, b); q = b; x = f(p, q) every true -> d; y = f(1, b);"),
		lateVars("p = f(@v, b); q = b; x = 1; y = 2;"),
		lateVars("p = f(w, @d); q = b; x = 1; y = 2;"),
		lateVars("p = f(@v, d) every d; q = b; x = 1; y = 2;"),
		lateVars("p = f(w, b) every @d; q = b; x = 1; y = 2;"),
		lateVars("p = f(@1 + v, b) every d; q = b; x = 1; y = 2;"),
		lateVars("p = f(1 + @pre v, b) every d; q = b; x = 1; y = 2;"),
		lateVars("p = f(0 -> v, b) every @v = 1; q = b; x = 1; y = 2;"),
		lateVars("p = f(0 -> v, b) every @pre d; q = b; x = 1; y = 2;"),
		lateVars("() = g() every @d;" + rest), lateVars("() = g() every true -> d;" + rest),
		lateVars(rest + " reset var z: int; do z = f(@v, b); every b;"),
		lateVars(rest + " reset var z: int; do z = f(w, b); every b;"),
	})
}

func TestBlocks(t *testing.T) { // P10.2
	holds(t, []string{
		lateVars(rest + " reset do every b;"), lateVars(rest + " reset do every @d;"),
		lateVars(rest + " reset do every b -> d;"), lateVars(rest + " reset do every b -> @pre d;"),
		lateVars("q = b; x = 1; y = 2; reset do @p = v; every d;"),
		lateVars("q = b; x = 1; y = 2; reset do p = w; every @d;"),
		lateVars("q = b; x = 1; y = 2; reset var z: int; do z = v; p = 0 -> z; every b;"),
		lateVars("q = b; x = 1; y = 2; reset var z: int; do z = v; @p = z; every b;"),
		lateVars("q = b; x = 1; y = 2; reset var z: int; do z = w; p = z; every b;"),
		lateVars("q = b; x = 1; y = 2; reset var z: int; do z = pre w; reset do @p = z; every d; every d;"),
		lateVars("q = b; x = 1; y = 2; reset var z: int; do z = pre w; reset do p = 0 -> z; every @pre z = 1; every d;"),
		lateVars("q = b; x = 1; y = 2; reset var z: int; do z = pre w; p = 0; every b; reset var z: int; z2: int; do z = a; z2 = 0 fby z; every b;"),
		lateVars("q = b; x = 1; y = 2; reset var z: int; z2: int; do z = a; z2 = 0 fby z; p = 0; every b; reset var z: int; z2: int; do z = pre w; z2 = @0 fby z; every b;"),
		lateVars(rest + " switch c | Red do | Green do end;"), lateVars(rest + " switch @k | Red do | Green do end;"),
		lateVars(rest + " switch Red -> k | Red do | Green do end;"), lateVars(rest + " switch @d -> true | true do | false do end;"),
		lateVars("q = b; x = 1; y = 2; switch @k | Red do p = v; | Green do p = v; end;"),
		lateVars("q = b; x = 1; y = 2; switch c | Red do p = w; | Green do @p = v; end;"),
		lateVars("q = b; x = 1; y = 2; switch c | Red do @p = pre w; | Green do p = v; end;"),
		lateVars("q = b; x = 1; y = 2; switch c | Red var z: int; do z = pre w; p = 0 -> z; | Green var z: int; do z = 1; p = z; end;"),
		lateVars("q = b; x = 1; y = 2; switch c | Red var z: int; do z = 1; p = z; | Green var z: int; do z = pre w; p = @z -> 1; end;"),
		lateVars("q = b; x = 1; y = 2; switch c | Red var last @z: int = 0; do z = pre w; p = last z; | Green do p = v; end;"),
	})
}

func TestAutomata(t *testing.T) { // P10.2
	holds(t, []string{
		lateVars("q = b; x = 1; y = 2; automaton | A do p = w; unless b then B until w = 1 continue B | B do p = 0 -> v; end;"),
		lateVars("q = b; x = 1; y = 2; automaton | A do p = v; unless @d then B until d continue B | B do p = v; end;"),
		lateVars("q = b; x = 1; y = 2; automaton | A do @p = v; unless b then B until d continue B | B do p = v; end;"),
		lateVars("q = b; x = 1; y = 2; automaton | A do p = w; unless b then B until @d continue B | B do p = v; unless d then A end;"),
		lateVars("q = b; x = 1; y = 2; automaton | A do p = w; until b continue B until b then A until @d then B | B do p = v; unless d then A end;"),
		lateVars("q = b; x = 1; y = 2; automaton | A do p = w; unless b then B unless @d then A until v = 1 continue B | B do p = v; unless d then A end;"),
		lateVars("q = b; x = 1; y = 2; automaton | A do p = w; unless b then B | B do @p = v; until d then A end;"),
		lateVars("q = b; x = 1; y = 2; automaton | A do p = w; unless b then B | B do p = v; unless @v = 1 then A end;"),
		lateVars("q = b; x = 1; y = 2; automaton | A var z: bool; do z = pre b; p = w; until b then B until @z then B | B do p = v; end;"),
		lateVars("q = b; x = 1; y = 2; automaton | A var z: bool; do z = b -> pre b; p = w; until z then B | B do p = w; end;"),
		lateVars("q = b; x = 1; y = 2; automaton | A var z: bool; do z = pre b; p = w; until b then B | B var z: bool; do p = w; z = b; until z then A end;"),
		lateVars("q = b; x = 1; y = 2; automaton | A var z: bool; do z = b; p = w; until z then B | B var z: bool; do p = w; z = pre b; until b then A until @not z then B end;"),
		lateVars("q = b; x = 1; y = 2; automaton | A do p = w; automaton | C var z: bool; do z = pre b; unless b then C until @z then C end; until d then B | B do p = v; end;"),
	})
}

func TestNodes(t *testing.T) { // P10.2: node by node
	holds(t, []string{
		"node f(a: int) returns (x: int) let x = a; tel node g(a: int) returns (x: int) let @x = pre a; tel",
		"node f(a: int) returns (x: int) let @x = pre a; tel node g(a: int) returns (x: int) let x = pre a; tel",
		"node f(a: int) returns (x: int) var v: int; let v = pre a; x = 0 -> v; tel node g(v: int) returns (x: int) let x = v; tel",
		"node f(a: int) returns (x: int) var v: int; let v = a; x = v; tel node g(a: int) returns (x: int) var v: int; let v = pre a; @x = v; tel",
	})
}

func TestUnused(t *testing.T) { // the fields that a kind does not use are ignored
	p, err := parse.Program(lateVars("p = f(a, b); q = b; x = 1; reset var z: c; do z = Red; switch b | true do y = last y; | false do end; every b;"))
	if err := faults.First(err, right(p)); err != nil {
		t.Fatal(err)
	}
	bad := tree.Name("v")
	ways := []api.Trans{{E: bad, To: "None"}}
	l := sample.Apart(&p)
	for _, e := range l.Exprs {
		if e.Kind != api.EVar && e.Kind != api.EWhen && e.Kind != api.EMerge {
			e.Name = "v"
		}
	}
	for _, q := range l.Eqs {
		switch q.Kind {
		case api.QDef:
			q.Args, q.Name, q.Has, q.Arms = []api.Expr{bad}, "f", true, []api.Arm{{Unless: ways, Until: ways}}
		case api.QCall:
			q.E, q.Arms = bad, []api.Arm{{Unless: ways, Until: ways}}
		default:
			q.Lhs, q.Name, q.Args, q.Has = []string{"w"}, "none", []api.Expr{bad}, true
			for i := range q.Arms {
				q.Arms[i].Unless, q.Arms[i].Until = ways, ways
			}
		}
	}
	for _, v := range l.Vars {
		if !v.Last {
			v.First = bad
		}
	}
	if err := inits.Check(p); err != nil {
		t.Errorf("%v", err)
	}
	b := p.Nodes[2].B
	if l := inits.Late(b); !slices.Equal(l, []string{"v", "d", "k"}) {
		t.Errorf("late: %v", l)
	}
}

func TestDeep(t *testing.T) { // P1: no tree is too deep
	defer debug.SetMaxStack(debug.SetMaxStack(1 << 20))
	const deep = 100000
	e, f := tree.Name("v"), tree.Name("v")
	for i := range deep {
		e = api.Expr{Kind: api.EUn, Op: api.Neg, Kids: []api.Expr{e}}
		f = api.Expr{Kind: api.EBin, Op: api.Add, Kids: []api.Expr{f, tree.Int(1)}}
		if i%2 == 0 {
			f = api.Expr{Kind: api.EFby, Kids: []api.Expr{tree.Int(1), f}}
		}
	}
	b := api.Block{Eqs: []api.Equation{{Kind: api.QDef, Lhs: []string{"y"}, E: e}}}
	yes, no := tree.Name("b"), api.Arm{Name: "false"}
	for i := range deep {
		switch i % 3 {
		case 0:
			b = api.Block{Eqs: []api.Equation{{Kind: api.QReset, E: yes, Arms: []api.Arm{{B: b}}}}}
		case 1:
			b = api.Block{Eqs: []api.Equation{{Kind: api.QSwitch, E: yes, Arms: []api.Arm{{Name: "true", B: b}, no}}}}
		case 2:
			l := []api.Trans{{E: yes, To: "A"}}
			b = api.Block{Eqs: []api.Equation{{Kind: api.QAuto, Arms: []api.Arm{{Name: "A", B: b, Unless: l, Until: l}}}}}
		}
	}
	number := api.Type{Kind: api.TInt}
	for _, late := range []bool{false, true} {
		v := api.Equation{Kind: api.QDef, Lhs: []string{"v"}, E: tree.Int(1)}
		if late {
			v.E = api.Expr{Kind: api.EPre, Kids: []api.Expr{tree.Int(1)}}
		}
		block := api.Block{Vars: []api.Var{{Name: "u", T: number}, {Name: "v", T: number}}}
		block.Eqs = append(slices.Clone(b.Eqs), v, api.Equation{Kind: api.QDef, Lhs: []string{"u"}, E: e}, api.Equation{Kind: api.QDef, Lhs: []string{"z"}, E: f})
		n := api.Node{Name: "f", Ins: []api.Var{{Name: "b", T: api.Type{Kind: api.TBool}}}, B: block}
		n.Outs = []api.Var{{Name: "y", T: number, Last: true, First: tree.Int(0)}, {Name: "z", T: number}}
		p := api.Program{Nodes: []api.Node{n}}
		if err := right(p); err != nil {
			t.Fatal(err)
		}
		if err := inits.Check(p); (err == nil) == late || err != nil && faults.Kind(err) != api.Init {
			t.Errorf("%t: %v", late, err)
		}
		if l := inits.Late(block); (len(l) == 2) != late || (len(l) == 0) == late {
			t.Errorf("%t: %v are late", late, l)
		}
	}
}

func TestLong(t *testing.T) { // P1: long chains of late variables, and many blocks beside each other, end soon enough
	const long = 200000
	var n api.Node
	for i := range long {
		name, next := "v"+strings.Repeat("x", i%7)+string(rune(0x4e00+i/7)), "v"+strings.Repeat("x", (i+1)%7)+string(rune(0x4e00+(i+1)/7))
		n.B.Vars = append(n.B.Vars, api.Var{Name: name})
		e := tree.Name(next)
		if i == long-1 {
			e = api.Expr{Kind: api.EPre, Kids: []api.Expr{tree.Int(1)}}
		}
		n.B.Eqs = append(n.B.Eqs, api.Equation{Kind: api.QDef, Lhs: []string{name}, E: e})
	}
	if l := inits.Late(n.B); len(l) != long {
		t.Errorf("%d are late", len(l))
	}
	last := n.B.Vars[0].Name
	within := api.Block{Vars: []api.Var{{Name: "w"}}, Eqs: []api.Equation{{Kind: api.QDef, Lhs: []string{"w"}, E: tree.Name(last)}}}
	for range long {
		n.B.Eqs = append(n.B.Eqs, api.Equation{Kind: api.QReset, E: tree.Bool(true), Arms: []api.Arm{{B: within}}})
	}
	n.B.Eqs = append(n.B.Eqs, api.Equation{Kind: api.QReset, E: tree.Name(last), Arms: []api.Arm{{}}})
	if err := inits.Check(api.Program{Nodes: []api.Node{n}}); faults.Kind(err) != api.Init {
		t.Errorf("%v", err)
	}
}
