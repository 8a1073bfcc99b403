package inits_test

import (
	"slices"
	"testing"

	"metronome/api"
	"metronome/faults"
	"metronome/inits"
	"metronome/parse"
	"metronome/sample"
	"metronome/show"
	"metronome/tree"
)

// around puts an expression within a new one of that kind; constant stands where a kid has to be one.
func around(kind byte, e, constant api.Expr) api.Expr {
	n := api.Expr{Kind: kind, At: api.Pos{Line: e.At.Line, Col: 2}}
	switch kind {
	case api.EPre:
		n.Kids = []api.Expr{e}
	case api.EFby:
		n.Kids = []api.Expr{constant, e}
	case api.EArrow:
		n.Kids = []api.Expr{sample.Clone(e), e}
	}
	return n
}

// spoil changes something by chance.
func spoil(d *sample.Dice, l *sample.Parts) {
	e, v := sample.Some(d, l.Exprs), sample.Some(d, l.Vars)
	switch d.Below(7) {
	case 0:
		at := e.At
		*e = sample.Clone(*sample.Some(d, l.Exprs))
		e.At = at
	case 1, 2:
		*e = around(api.EPre, *e, api.Expr{})
	case 3:
		if e.Kind == api.EPre || e.Kind == api.EFby || e.Kind == api.EArrow {
			*e = sample.Clone(sample.Some(d, e.Kids))
		}
	case 4:
		if len(e.Kids) > 1 && tree.Const(e.Kids[0]) {
			*e = around(api.EFby, sample.Clone(e.Kids[1]), e.Kids[0])
		}
	case 5:
		*e = around(api.EArrow, *e, api.Expr{})
	case 6:
		if e.Kind == api.EVar || e.Kind == api.EMerge || e.Kind == api.EWhen {
			e.Name = v.Name
		}
	}
}

// sameLate compares what is late in a block and in those within it.
func sameLate(t *testing.T, b api.Block) {
	t.Helper()
	if l := inits.Late(b); !slices.Equal(l, lateOf(b)) {
		t.Fatalf("%v are late, not %v", l, lateOf(b))
	}
	for _, q := range b.Eqs {
		for _, a := range q.Arms {
			sameLate(t, a.B)
		}
	}
}

func TestSpoilt(t *testing.T) { // P10.1, P10.2: programs in which something is changed
	var found [13]int
	late := 0
	for i := range 6000 {
		d := sample.Dice(i)
		p, err := parse.Program(show.Program(sample.Program(uint64(i % 1500))))
		if err != nil {
			t.Fatal(err)
		}
		l := sample.Apart(&p)
		if err := inits.Check(p); err != nil {
			t.Fatalf("%s: %v", show.Program(p), err)
		}
		for range 1 + d.Below(3) {
			spoil(&d, l)
		}
		if right(p) != nil {
			continue
		}
		err, want := inits.Check(p), check(p)
		if faults.Text(err) != faults.Text(want) {
			t.Fatalf("%s: %v, not %v", show.Program(p), err, want)
		}
		found[faults.Kind(err)]++
		for _, n := range p.Nodes {
			sameLate(t, n.B)
			late += len(inits.Late(n.B))
		}
	}
	if found[api.OK] < 500 || found[api.Init] < 500 || late < 500 {
		t.Errorf("%d right, %d not; %d late variables", found[api.OK], found[api.Init], late)
	}
}

// makeSmall makes an expression of numbers, with kids that are no deeper than that.
func makeSmall(d *sample.Dice, deep int) api.Expr {
	e := api.Expr{Kind: sample.Some(d, []byte{api.EInt, api.EVar, api.EVar, api.ELast}), N: 1}
	if deep > 0 && d.Below(5) > 0 {
		e.Kind = sample.Some(d, []byte{api.EUn, api.EBin, api.EIf, api.EFby, api.EFby, api.EPre, api.EArrow, api.EArrow, api.EMerge})
	}
	kids := [api.EMerge + 1]int{api.EUn: 1, api.EBin: 2, api.EFby: 1, api.EPre: 1, api.EArrow: 2, api.EIf: 2, api.EMerge: 2}[e.Kind]
	switch e.Kind {
	case api.EVar:
		e.Name = sample.Some(d, []string{"a", "v", "w", "p", "x"})
	case api.ELast:
		e.Name = "y"
	case api.EUn:
		e.Op = api.Neg
	case api.EBin:
		e.Op = api.Add
	case api.EIf:
		e.Kids = []api.Expr{tree.Name(sample.Some(d, []string{"b", "b", "d"}))}
	case api.EFby:
		e.Kids = []api.Expr{tree.Int(0)}
		if d.Below(3) == 0 { // no text can say this, but a tree can
			e.Kids[0] = makeSmall(d, deep-1)
		}
	case api.EMerge:
		e.Name, e.Names = sample.Some(d, []string{"b", "b", "d"}), []string{"true", "false"}
	}
	for range kids {
		kid := makeSmall(d, deep-1)
		if e.Kind == api.EMerge {
			kid = tree.Int(1)
			if d.Below(2) == 0 {
				kid = api.Expr{Kind: api.EPre, Kids: []api.Expr{tree.Int(1)}}
			}
		}
		e.Kids = append(e.Kids, kid)
	}
	return e
}

func TestSmall(t *testing.T) { // P10.1, P10.2: expressions of any kind, late or not, each at a place of its own
	p, err := parse.Program(lateVars("p = a; q = b; x = 1; y = 2; reset do every b;"))
	if err != nil {
		t.Fatal(err)
	}
	n := &p.Nodes[2]
	ok, wrong, late := 0, 0, 0
	q := &n.B.Eqs[4]
	x := &n.B.Eqs[6]
	every := &n.B.Eqs[8]
	for i := range 30000 {
		d := sample.Dice(i)
		e := makeSmall(&d, 1+d.Below(4))
		(&sample.Parts{}).Expr(&e)
		for _, at := range []*api.Expr{&q.E, &x.E, &every.E} {
			old := *at
			*at = e
			if err := right(p); err != nil && at != &every.E {
				t.Fatalf("%s: %v", show.Expr(e), err)
			}
			err, want := inits.Check(p), check(p)
			if faults.Text(err) != faults.Text(want) {
				t.Fatalf("%s: %v, not %v", show.Expr(e), err, want)
			}
			if err != nil {
				wrong++
			} else if len(e.Kids) > 0 {
				ok++
			}
			sameLate(t, n.B)
			late += len(inits.Late(n.B)) - 3
			*at = old
		}
	}
	if ok < 10000 || wrong < 10000 || late < 3000 {
		t.Errorf("%d right, %d not; %d times late", ok, wrong, late)
	}
}

func TestChains(t *testing.T) { // P10.1: the smallest set, whatever the order of the equations is
	const many = 8
	sizes := map[int]int{}
	for i := range 20000 {
		d := sample.Dice(i)
		var b api.Block
		for j := range many {
			name := "abcdefgh"[j : j+1]
			if d.Below(8) > 0 {
				b.Vars = append(b.Vars, api.Var{Name: name})
			}
			e := tree.Name("abcdefgh"[d.Below(many):][:1])
			for range d.Below(3) {
				e = api.Expr{Kind: api.EBin, Op: api.Add, Kids: []api.Expr{e, tree.Name("abcdefgh"[d.Below(many):][:1])}}
			}
			switch d.Below(6) {
			case 0:
				e = api.Expr{Kind: api.EPre, Kids: []api.Expr{e}}
			case 1, 2:
				e = api.Expr{Kind: api.EArrow, Kids: []api.Expr{tree.Name("abcdefgh"[d.Below(many):][:1]), e}}
			case 3:
				e = tree.Int(1)
			}
			b.Eqs = append(b.Eqs, api.Equation{Kind: api.QDef, Lhs: []string{name}, E: e})
		}
		for j := range b.Eqs {
			k := d.Below(j + 1)
			b.Eqs[j], b.Eqs[k] = b.Eqs[k], b.Eqs[j]
		}
		sameLate(t, b)
		sizes[len(inits.Late(b))]++
	}
	for n := range many {
		if sizes[n] < 100 {
			t.Errorf("%d times %d variables are late", sizes[n], n)
		}
	}
}

func TestOrder(t *testing.T) { // P10.2: an expression comes behind its kids, these from left to right
	p, err := parse.Program(lateVars("p = a; q = b; x = 1; y = 2;"))
	if err != nil {
		t.Fatal(err)
	}
	at := func(kind byte, name string, col int, kids ...api.Expr) api.Expr {
		return api.Expr{Kind: kind, Op: api.Add, Name: name, Names: []string{"true", "false"}[:min(2, len(kids))], Kids: kids, At: api.Pos{Line: 7, Col: col}}
	}
	for i, c := range []struct {
		e   api.Expr
		col int
	}{
		{at(api.EWhen, "d", 2, at(api.EMerge, "d", 1, tree.Int(1), tree.Int(2))), 1},
		{at(api.EWhen, "d", 2, at(api.EMerge, "b", 1, tree.Int(1), tree.Int(2))), 2},
		{at(api.EWhen, "b", 2, at(api.EMerge, "d", 1, tree.Int(1), tree.Int(2))), 1},
		{at(api.EWhen, "b", 2, at(api.EMerge, "b", 1, tree.Int(1), tree.Int(2))), 0},
		{at(api.EWhen, "d", 2, at(api.EVar, "v", 1)), 2},
		{at(api.EMerge, "d", 1, at(api.EPre, "", 2, at(api.EVar, "v", 3)), tree.Int(2)), 2},
		{at(api.EMerge, "d", 1, tree.Int(2), at(api.EPre, "", 2, at(api.EVar, "v", 3))), 2},
		{at(api.EMerge, "d", 1, at(api.EPre, "", 2, at(api.EVar, "w", 3)), tree.Int(2)), 1},
		{at(api.EPre, "", 1, at(api.EFby, "", 2, tree.Int(0), at(api.EVar, "v", 3))), 2},
		{at(api.EArrow, "", 1, at(api.EVar, "v", 2), at(api.EPre, "", 3, at(api.EVar, "v", 4))), 3},
		{at(api.EFby, "", 1, at(api.EPre, "", 2, at(api.EVar, "v", 3)), at(api.EVar, "v", 4)), 2},
		{at(api.EFby, "", 1, at(api.EVar, "v", 3), at(api.EVar, "v", 4)), 1},
		{at(api.EFby, "", 1, at(api.EVar, "v", 3), at(api.EVar, "w", 4)), 9},
		{at(api.EBin, "", 1, at(api.EPre, "", 2, at(api.EVar, "v", 3)), at(api.EPre, "", 4, at(api.EVar, "v", 5))), 2},
		{at(api.EBin, "", 1, at(api.EPre, "", 2, at(api.EVar, "w", 3)), at(api.EPre, "", 4, at(api.EVar, "v", 5))), 4},
		{at(api.EBin, "", 1, at(api.EPre, "", 2, at(api.EVar, "w", 3)), at(api.EPre, "", 4, at(api.EVar, "w", 5))), 9},
	} {
		q := &p.Nodes[2].B.Eqs[6]
		q.At.Col = 9
		q.E = c.e
		if err := inits.Check(p); faults.Where(err).Col != c.col || (err == nil) != (c.col == 0) || faults.Text(err) != faults.Text(check(p)) {
			t.Errorf("%d: %v, not in column %d", i, err, c.col)
		}
	}
}

func TestIllFormed(t *testing.T) { // P1: nothing is promised but an end without a panic
	for i := range 4000 {
		d := sample.Dice(i)
		p := sample.Program(uint64(i % 300))
		l := sample.Apart(&p)
		for range 1 + d.Below(5) {
			q, e := sample.Some(&d, l.Eqs), sample.Some(&d, l.Exprs)
			if d.Below(3) == 0 {
				q.Kind, e.Kind = byte(d.Below(7)), byte(d.Below(15))
			}
			if d.Below(3) == 0 {
				q.Lhs, q.Arms, e.Names, e.Kids = nil, nil, nil, nil
			}
			if d.Below(3) == 0 {
				e.Names = e.Names[:len(e.Names)/2]
			}
			if d.Below(3) == 0 {
				q.Name, e.Name = "none", "None"
			}
			if d.Below(3) == 0 {
				sample.Some(&d, l.Vars).Name = sample.Some(&d, l.Vars).Name
			}
		}
		inits.Check(p)
		for _, n := range p.Nodes {
			inits.Late(n.B)
		}
	}
}
