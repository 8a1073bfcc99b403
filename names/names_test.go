package names_test

import (
	"runtime/debug"
	"slices"
	"strings"
	"testing"

	"metronome/api"
	"metronome/faults"
	"metronome/names"
	"metronome/parse"
	"metronome/sample"
	"metronome/show"
	"metronome/tree"
)

// read is the program of a text; an @ in it marks where its error stands.
func read(t *testing.T, text string) (api.Program, api.Pos) {
	t.Helper()
	text, at := sample.Cut(text)
	p, err := parse.Program(text)
	if err != nil {
		t.Fatalf("%s: %v", text, err)
	}
	return p, at
}

// body is a program with that block, of a node with the input a and the outputs x and y (a last value); f is a node, c a type.
func body(s string) string {
	return "type c = Red | Green;\nnode f(a: int) returns (x: int) let x = a; tel\nnode main(a: int; b: bool; k: c) returns (x: int; last y: int = 0)\n" + s
}

type fault struct {
	kind api.Kind
	text string
}

func holds(t *testing.T, l []fault) {
	t.Helper()
	for _, c := range l {
		p, at := read(t, c.text)
		err := names.Check(p)
		if k, where := faults.Tell(err); k != c.kind || where != at {
			t.Errorf("%s: %v, not %v at %v", c.text, err, c.kind, at)
		}
		if want := check(p); faults.Text(err) != faults.Text(want) {
			t.Errorf("%s: %v, not %v", c.text, err, want)
		}
	}
}

func TestDeclared(t *testing.T) { // P7.1
	holds(t, []fault{
		{api.OK, ""},
		{api.OK, body("let x = a; y = last y; tel")},
		{api.Twice, "type c = A; type @c = B;"},
		{api.Twice, "type c = A | B; type @d = C | B;"},
		{api.Twice, "type @c = A | B | A;"},
		{api.OK, "type c = A; type d = B; node c(c: c) returns () let tel"},
		{api.Twice, "node f() returns (x: none) let tel node @f() returns () let tel"},
		{api.Twice, "node f() returns () let tel node @f() returns (x: none) let tel type c = A;"},
		{api.OK, "type f = F; node f(f: f) returns () let tel"},
		{api.Twice, "type c = A; node f(x: c; @x: none) returns () let tel"},
		{api.Twice, "node f(x: int) returns (@x: int) let tel"},
		{api.Twice, "node f(x: int) returns (y: int) var @x: int; let tel"},
		{api.Twice, "node f(x: int) returns (y: int) var @y: int; let tel"},
		{api.Name, "node f(@x: c) returns () let tel type d = A;"},
		{api.Name, "node f(x: int) returns (@y: c) let tel"},
		{api.Name, "node f(x: int) returns () var @v: c; let v = none; tel"},
		{api.Name, "node f(last @x: c = A) returns () let tel"},
		{api.Name, "node f(last x: int = @A) returns () let tel"},
		{api.OK, "type c = A; node f(last x: c = A) returns () let tel"},
		{api.OK, "node f(x: int when A(none)) returns () let tel"},
		{api.Name, "node f(x: int) returns (@y: int) let tel"},
		{api.Name, "node f(x: int) returns (y: int; @z: int) let y = x; tel"},
		{api.OK, "node f(x: int) returns () let tel"},
	})
}

func TestBlocks(t *testing.T) { // P7.1
	holds(t, []fault{
		{api.OK, body("var v: int; w: bool; let w = b; v = x; x = a; y = v; tel")},
		{api.Name, body("var @v: int; let x = a; y = a; tel")},
		{api.Name, body("var last @v: int = 3; let x = a; y = a; tel")},
		{api.Twice, body("var v: int; @v: int; let x = a; y = a; tel")},
		{api.OK, body("var v: int when Red(k); w: int when Red(k) when true(v); u: int when false(w); let v = a; w = a; u = a; x = a; y = a; tel")},
		{api.Name, body("var @v: int when Red(none); let v = a; x = a; y = a; tel")},
		{api.Name, body("var @v: int when Blue(k); let v = a; x = a; y = a; tel")},
		{api.Name, body("var v: int; @w: int when Red(k) when Blue(v); let v = none; x = a; y = a; tel")},
		{api.Name, body("var v: int when Red(none); @w: none; let tel")},
		{api.Twice, body("let x = a; @x = a; y = a; tel")},
		{api.Twice, body("let x = a; @(y, y) = f(a); tel")},
		{api.Twice, body("let x = a; @(y, x) = f(a); tel")},
		{api.Name, body("let x = a; @(y, none, y) = f(a); tel")},
		{api.Name, body("let x = a; y = a; @none = a; tel")},
		{api.Name, body("let x = a; y = a; @a = a; tel")},
		{api.Name, body("let x = a; y = @none; x = a; tel")},
		{api.Name, body("let x = a; y = a; @z = a; x = none; tel")},
		{api.Name, body("let x = a; y = a; switch b | true var v: int; do v = a; @a = v; | false do end; tel")},
		{api.OK, body("let switch b | true var v: int; do v = a; x = v; | false var v: bool; do v = b; x = a; end; y = a; tel")},
		{api.Name, body("let switch b | true var v: int; do v = a; x = v; | false do x = @v; end; y = a; tel")},
		{api.Name, body("let switch b | true var v: int; do v = a; x = v; | false do x = a; end; y = @v; tel")},
		{api.Twice, body("var v: int; let v = a; y = a; reset var @v: int; do v = a; x = v; every b; tel")},
		{api.Name, body("var @v: int; let y = a; reset var u: int; do u = a; x = u; every b; tel")},
		{api.Twice, body("let x = a; y = a; @reset do x = a; every b; tel")},
		{api.Twice, body("let x = a; y = a; @switch b | true do y = a; x = a; | false do x = a; y = 2; end; tel")},
	})
}

func TestEquations(t *testing.T) { // P7.1
	holds(t, []fault{
		{api.Name, body("let x = a; @y = none(none); tel")},
		{api.Name, body("let x = a; y = f(@none); tel")},
		{api.Name, body("let x = a; y = f(a, @none) every none; tel")},
		{api.Name, body("let x = a; y = f(a) every @none; tel")},
		{api.OK, body("let x = a; y = f(a, a, a) every a; tel")},
		{api.Name, body("let x = a; y = f(a); reset do @z = a; every none; tel")},
		{api.Name, body("let x = a; y = f(a); reset do every @none; tel")},
		{api.Name, body("let x = a; reset var v: int; do y = v; v = a; every @v; tel")},
		{api.Name, body("let x = a; y = a; switch @none | Red do z = a; end; tel")},
		{api.OK, body("let x = a; switch k | Blue do y = a; end; tel")},
		{api.OK, body("let x = a; switch k | Red do y = a; | Red do end; tel")},
		{api.Name, body("let y = a; switch k | Red do x = a; | @Green do end; tel")},
		{api.Name, body("let y = a; switch k | @Red do | Green do x = a; end; tel")},
		{api.Name, body("var v: int; u: int; let x = a; y = a; switch k | @Red do v = a; | Green do u = a; end; tel")},
		{api.Name, body("var v: int; let x = a; switch k | Red do v = a; | Green do y = @none; end; tel")},
		{api.OK, body("var last v: int = 1; let x = a; switch k | Red do v = a; | Green do y = a; end; tel")},
		{api.Name, body("let y = a; automaton | Red do x = a; | @Green do end; tel")},
		{api.OK, body("let automaton | Red do x = a; | Green do x = y; y = a; end; tel")},
		{api.Twice, body("let automaton | Up do x = a; | @Up do x = none; end; tel")},
		{api.Twice, body("let automaton | Up do x = a; | @Up do x = a; unless none then None end; tel")},
		{api.Name, body("let automaton | Up do x = a; unless @none then None end; tel")},
		{api.Name, body("let automaton | Up do x = a; @unless b then None end; tel")},
		{api.Name, body("let automaton | Up do x = a; unless b then Up @unless b continue Red end; tel")},
		{api.OK, body("let automaton | Up do x = a; y = a; unless b then Down until b continue Up | Down do x = a; until b continue Up end; tel")},
		{api.Name, body("let automaton | Up var v: bool; do x = a; v = b; unless @v then Up end; tel")},
		{api.OK, body("let y = a; automaton | Up var v: bool; do x = a; v = b; until v then Up end; tel")},
		{api.Name, body("let y = a; automaton | Up var v: bool; do x = a; v = b; until b then Up | Down do x = a; until @v then Up end; tel")},
		{api.Name, body("let y = a; automaton | Up do x = a; until b then Up @until b then Left end; tel")},
		{api.Name, body("let y = a; automaton | Up var v: int; do x = a; @until b then Left end; tel")},
		{api.Name, body("let y = a; automaton | Up var @v: int; do x = a; until b then Up end; tel")},
		{api.Name, body("let y = a; automaton | Up do x = @none; unless b then Up until none then Up end; tel")},
	})
}

func TestExpressions(t *testing.T) { // P7.1
	holds(t, []fault{
		{api.Name, body("let y = a; x = @none; tel")},
		{api.Name, body("let y = a; x = @last none; tel")},
		{api.Name, body("let y = a; x = @last x; tel")},
		{api.Name, body("let y = a; x = @Blue; tel")},
		{api.OK, body("let y = a; x = 1 fby ((Green + true) when true(k)) -> pre (merge b (true -> k when Red(a)) (false -> last y)); tel")},
		{api.Name, body("let y = a; x = @a when Red(none); tel")},
		{api.Name, body("let y = a; x = @a when Blue(a); tel")},
		{api.Name, body("let y = a; x = @none when Blue(none2); tel")},
		{api.Name, body("let y = a; x = (1 + @last x) when Red(none); tel")},
		{api.Name, body("let y = a; x = @merge none (Red -> a); tel")},
		{api.Name, body("let y = a; x = @merge k (Red -> a) (Blue -> k); tel")},
		{api.Name, body("let y = a; x = merge none (Red -> a) (Blue -> @k2); tel")},
		{api.Name, body("let y = a; x = 1 + (2 * @none) + none; tel")},
		{api.Name, body("let y = a; x = if b then @Up else Down; tel")},
		{api.Name, body("let y = a; x = 0 fby @none; tel")},
	})
}

func TestFirst(t *testing.T) { // P7.1: first values see what is declared ahead of them
	last := func(name string, e api.Expr) api.Var {
		return api.Var{Name: name, T: api.Type{Kind: api.TInt}, Last: true, First: e, At: api.Pos{Line: 1, Col: 1}}
	}
	at := func(e api.Expr, line int) api.Expr {
		e.At = api.Pos{Line: line, Col: 2}
		return e
	}
	define := func(l ...string) api.Block {
		b := api.Block{}
		for _, name := range l {
			b.Eqs = append(b.Eqs, api.Equation{Kind: api.QDef, Lhs: []string{name}, E: tree.Int(1)})
		}
		return b
	}
	one := tree.Int(1)
	inner := define("w")
	inner.Vars = []api.Var{last("w", at(tree.Name("x"), 9))}
	outer := define("x", "v")
	outer.Vars = []api.Var{last("v", at(api.Expr{Kind: api.ELast, Name: "x"}, 8))}
	outer.Eqs = append(outer.Eqs, api.Equation{Kind: api.QReset, E: one, Arms: []api.Arm{{B: inner}}})
	base := api.Node{Name: "f", Ins: []api.Var{last("a", one)}, Outs: []api.Var{last("x", at(tree.Name("a"), 7))}, B: outer}
	for name, c := range map[string]struct {
		change func(n *api.Node)
		line   int
	}{
		"as it is":          {func(n *api.Node) {}, 0},
		"itself":            {func(n *api.Node) { n.Ins[0].First = at(tree.Name("a"), 3) }, 3},
		"behind it":         {func(n *api.Node) { n.Ins[0].First = at(tree.Name("x"), 4) }, 4},
		"of the block":      {func(n *api.Node) { n.Outs[0].First = at(tree.Name("v"), 5) }, 5},
		"no last":           {func(n *api.Node) { n.Outs[0].Last = false }, 8},
		"not asked":         {func(n *api.Node) { n.Ins[0] = api.Var{Name: "a", T: n.Ins[0].T, First: at(tree.Name("none"), 6)} }, 0},
		"of a block within": {func(n *api.Node) { n.B.Vars[0].First = at(tree.Name("w"), 6) }, 6},
	} {
		n := base
		n.Ins, n.Outs, n.B.Vars = slices.Clone(n.Ins), slices.Clone(n.Outs), slices.Clone(n.B.Vars)
		c.change(&n)
		p := api.Program{Nodes: []api.Node{n}}
		err := names.Check(p)
		if faults.Where(err).Line != c.line || (err == nil) != (c.line == 0) || faults.Text(err) != faults.Text(check(p)) {
			t.Errorf("%s: %v, not in line %d", name, err, c.line)
		}
	}
}

func TestLoop(t *testing.T) { // P7.1, Example 1
	holds(t, []fault{
		{api.Loop, "node @f() returns () let () = f(); tel"},
		{api.Loop, "node g() returns () let () = f(); tel\nnode @f() returns () let () = f(); tel"},
		{api.Loop, "node e() returns () let () = f(); tel\nnode @f() returns () let () = h(); () = g(); tel\nnode g() returns () let () = h(); () = f(); tel node h() returns () let tel"},
		{api.Loop, "node @f() returns () let switch true | true do reset do () = g(); every true; end; tel\nnode g() returns () let automaton | A do () = f(); end; tel"},
		{api.Name, "node f() returns () let () = f(); tel\nnode g() returns (@x: int) let tel"},
		{api.OK, "node f() returns () let () = g(); () = h(); tel node g() returns () let () = h(); tel node h() returns () let tel"},
	})
}

func TestTypes(t *testing.T) { // P7.1: a type of no kind is not declared
	for _, typ := range []api.Type{{}, {Kind: 4, Name: "c"}, {Kind: api.TEnum}, {Kind: api.TEnum, Name: "d"}} {
		p, _ := read(t, "type c = A; node f(x: int) returns () let tel")
		p.Nodes[0].Ins[0].T = typ
		if err := names.Check(p); faults.Kind(err) != api.Name || faults.Where(err) != p.Nodes[0].Ins[0].At {
			t.Errorf("%v: %v", typ, err)
		}
	}
}

func TestUnused(t *testing.T) { // the fields that a kind does not use are ignored
	p, _ := read(t, body("let x = f(a); reset do switch b | true do y = a; | false do end; every b; tel"))
	bad := api.Expr{Kind: api.EVar, Name: "none"}
	ways := []api.Trans{{E: bad, To: "None"}}
	eqs := p.Nodes[1].B.Eqs
	eqs[0].E = bad
	for _, q := range []*api.Equation{&eqs[1], &eqs[1].Arms[0].B.Eqs[0]} {
		q.Lhs, q.Name, q.Args, q.Has = []string{"z"}, "none", []api.Expr{bad}, true
		for i := range q.Arms {
			q.Arms[i].Unless, q.Arms[i].Until = ways, ways
		}
	}
	p.Nodes[1].Ins[0].First = bad
	if err := names.Check(p); err != nil {
		t.Errorf("%v", err)
	}
}

// spots are all names in a program.
func spots(p *api.Program) []*string {
	var l []*string
	list := func(names []string) {
		for i := range names {
			l = append(l, &names[i])
		}
	}
	var expr func(e *api.Expr)
	expr = func(e *api.Expr) {
		if e.Name != "" {
			l = append(l, &e.Name)
		}
		list(e.Names)
		for i := range e.Kids {
			expr(&e.Kids[i])
		}
	}
	vars := func(vars []api.Var) {
		for i := range vars {
			v := &vars[i]
			l = append(l, &v.Name, &v.T.Name)
			for j := range v.Clock {
				l = append(l, &v.Clock[j].Ctor, &v.Clock[j].Var)
			}
			expr(&v.First)
		}
	}
	ways := func(ways []api.Trans) {
		for i := range ways {
			expr(&ways[i].E)
			l = append(l, &ways[i].To)
		}
	}
	var block func(b *api.Block)
	block = func(b *api.Block) {
		vars(b.Vars)
		for i := range b.Eqs {
			q := &b.Eqs[i]
			l = append(l, &q.Name)
			list(q.Lhs)
			expr(&q.E)
			for j := range q.Args {
				expr(&q.Args[j])
			}
			for j := range q.Arms {
				a := &q.Arms[j]
				l = append(l, &a.Name)
				ways(a.Unless)
				block(&a.B)
				ways(a.Until)
			}
		}
	}
	for i := range p.Enums {
		l = append(l, &p.Enums[i].Name)
		list(p.Enums[i].Ctors)
	}
	for i := range p.Nodes {
		n := &p.Nodes[i]
		l = append(l, &n.Name)
		vars(n.Ins)
		vars(n.Outs)
		block(&n.B)
	}
	return l
}

func TestSpoilt(t *testing.T) { // P7.1: programs in which one or two names are others, something is not there, or is there twice
	var found [13]int
	for i := range 6000 {
		d := sample.Dice(i)
		text := show.Program(sample.Program(uint64(i % 1500)))
		p, err := parse.Program(text)
		if err != nil {
			t.Fatal(err)
		}
		if err := names.Check(p); err != nil {
			t.Fatalf("%s: %v", text, err)
		}
		l := spots(&p)
		switch i % 4 {
		case 0:
			drop(&d, &p)
		case 1:
			callAny(&d, &p)
		default:
			for range 1 + d.Below(2) {
				*l[d.Below(len(l))] = *l[d.Below(len(l))]
			}
		}
		err, want := names.Check(p), check(p)
		if faults.Text(err) != faults.Text(want) {
			t.Fatalf("%s: %v, not %v", show.Program(p), err, want)
		}
		found[faults.Kind(err)]++
	}
	t.Log(found)
	for _, k := range []api.Kind{api.OK, api.Twice, api.Name, api.Loop} {
		if found[k] < 20 {
			t.Errorf("%v only %d times", k, found[k])
		}
	}
}

// drop takes an equation or a variable out of some block, or has an equation twice.
func drop(d *sample.Dice, p *api.Program) {
	b := &p.Nodes[d.Below(len(p.Nodes))].B
	for range 1 + d.Below(4) {
		if len(b.Eqs) == 0 {
			return
		}
		i := d.Below(len(b.Eqs))
		if n := len(b.Eqs[i].Arms); n > 0 {
			b = &b.Eqs[i].Arms[d.Below(n)].B
			continue
		}
		switch d.Below(3) {
		case 0:
			b.Eqs = slices.Delete(b.Eqs, i, i+1)
		case 1:
			b.Eqs = append(b.Eqs, b.Eqs[i])
		default:
			if len(b.Vars) > 0 {
				b.Vars = b.Vars[1:]
			}
		}
		return
	}
}

// callAny has some call be of another node, or of itself.
func callAny(d *sample.Dice, p *api.Program) {
	for _, n := range p.Nodes {
		for i := range n.B.Eqs {
			if q := &n.B.Eqs[i]; q.Kind == api.QCall && d.Below(2) == 0 {
				q.Name = p.Nodes[d.Below(len(p.Nodes))].Name
			}
		}
	}
}

// graph is a program of nodes that call each other.
func graph(calls [][]int) api.Program {
	var p api.Program
	for i, l := range calls {
		n := api.Node{Name: string(rune('a' + i)), At: api.Pos{Line: i + 1, Col: 1}}
		for _, j := range l {
			n.B.Eqs = append(n.B.Eqs, api.Equation{Kind: api.QCall, Name: string(rune('a' + j))})
		}
		p.Nodes = append(p.Nodes, n)
	}
	return p
}

func TestNeedsAndOrder(t *testing.T) { // P7.2
	p := graph([][]int{{2, 1, 9}, {3}, {3, 4, 2}, {}, {3}, {3}})
	if l := names.Needs(p, "a"); !slices.Equal(l, []string{"c", "b", "d", "e"}) {
		t.Errorf("%q", l)
	}
	if l := names.Needs(p, "z"); len(l) > 0 {
		t.Errorf("of none: %q", l)
	}
	if l := names.Order(p); len(l) > 0 {
		t.Errorf("order in spite of a loop: %q", l)
	}
	p = graph([][]int{{2, 1, 9}, {3}, {3, 4}, {}, {3}, {3}})
	if l := names.Order(p); !slices.Equal(l, []string{"d", "b", "e", "c", "a", "f"}) {
		t.Errorf("%q", l)
	}
	for i := range 20000 {
		d := sample.Dice(i)
		calls := make([][]int, d.Below(8))
		for j := range calls {
			for range d.Below(1 + d.Below(4)) {
				calls[j] = append(calls[j], d.Below(1+len(calls)))
			}
		}
		p := graph(calls)
		if l := names.Order(p); !slices.Equal(l, order(p)) {
			t.Fatalf("%v: order %q, not %q", calls, l, order(p))
		}
		for _, n := range p.Nodes {
			if l := names.Needs(p, n.Name); !slices.Equal(l, needs(p, n.Name)) {
				t.Fatalf("%v: %s needs %q, not %q", calls, n.Name, l, needs(p, n.Name))
			}
		}
		if err, want := names.Check(p), check(p); faults.Text(err) != faults.Text(want) {
			t.Fatalf("%v: %v, not %v", calls, err, want)
		}
	}
}

func TestDeep(t *testing.T) { // P1: no tree is too deep
	defer debug.SetMaxStack(debug.SetMaxStack(1 << 20))
	e := tree.Name("none")
	for range 100000 {
		e = api.Expr{Kind: api.EPre, Kids: []api.Expr{e}}
	}
	b := api.Block{Eqs: []api.Equation{{Kind: api.QDef, Lhs: []string{"x"}, E: e}}}
	for i := range 100000 {
		b = api.Block{Eqs: []api.Equation{{Kind: []byte{api.QReset, api.QAuto, api.QSwitch}[i%3], E: tree.Int(0), Arms: []api.Arm{{B: b}}}}}
	}
	p := api.Program{Nodes: []api.Node{{Name: "f", Ins: []api.Var{{Name: "none", T: api.Type{Kind: api.TInt}}}, Outs: []api.Var{{Name: "x", T: api.Type{Kind: api.TInt}}}, B: b}}}
	if err := names.Check(p); err != nil {
		t.Errorf("deep: %v", err)
	}
	p.Nodes[0].Ins = nil
	if err := names.Check(p); faults.Kind(err) != api.Name {
		t.Errorf("deep: %v", err)
	}
}

func TestLong(t *testing.T) { // P1: so many nodes, one behind the other, end soon enough
	var p api.Program
	name := func(i int) string {
		return strings.Repeat("n", 1+i%7) + "_" + string(rune('0'+i%10)) + string(rune(0x4e00+i/10))
	}
	const many = 100000
	for i := range many {
		p.Nodes = append(p.Nodes, api.Node{Name: name(i), At: api.Pos{Line: i + 1, Col: 1}, B: api.Block{Eqs: []api.Equation{{Kind: api.QCall, Name: name(i + 1)}}}})
	}
	p.Nodes[many-1].B = api.Block{}
	if err := names.Check(p); err != nil {
		t.Errorf("%v", err)
	}
	if l := names.Order(p); len(l) != many || l[0] != name(many-1) {
		t.Errorf("%d in order", len(l))
	}
	p.Nodes[many-1].B = api.Block{Eqs: []api.Equation{{Kind: api.QCall, Name: name(many / 2)}}}
	if err := names.Check(p); faults.Where(err).Line != many/2+1 {
		t.Errorf("%v", err)
	}
}

func TestIllFormed(t *testing.T) { // P1: nothing is promised but an end without a panic
	for i := range 3000 {
		d := sample.Dice(i)
		p := sample.Program(uint64(i % 300))
		for range 1 + d.Below(5) {
			b := &p.Nodes[d.Below(len(p.Nodes))].B
			for len(b.Eqs) > 0 {
				q := &b.Eqs[d.Below(len(b.Eqs))]
				if len(q.Arms) > 0 && d.Below(3) > 0 {
					b = &q.Arms[d.Below(len(q.Arms))].B
					continue
				}
				q.Kind, q.E.Kind = byte(d.Below(7)), byte(d.Below(15))
				if d.Below(3) == 0 {
					q.Lhs, q.Arms, q.E.Names, q.E.Kids = nil, nil, nil, nil
				}
				break
			}
		}
		names.Check(p)
		names.Order(p)
		names.Needs(p, "f")
	}
}
