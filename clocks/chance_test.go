package clocks_test

import (
	"slices"
	"testing"

	"metronome/api"
	"metronome/clocks"
	"metronome/faults"
	"metronome/names"
	"metronome/parse"
	"metronome/sample"
	"metronome/show"
	"metronome/tree"
	"metronome/types"
)

// sampling is one by any variable.
func sampling(d *sample.Dice, p *api.Program, l *sample.Parts) api.On {
	v := sample.Some(d, l.Vars)
	ctors := tree.Ctors(p.Enums, v.T)
	if len(ctors) == 0 {
		return api.On{Ctor: "true", Var: v.Name}
	}
	return api.On{Ctor: sample.Some(d, ctors), Var: v.Name}
}

// spoil changes something by chance.
func spoil(d *sample.Dice, p *api.Program, l *sample.Parts) {
	e, v := sample.Some(d, l.Exprs), sample.Some(d, l.Vars)
	switch d.Below(9) {
	case 0:
		at := e.At
		*e = sample.Clone(*sample.Some(d, l.Exprs))
		e.At = at
	case 1:
		if e.Kind == api.EVar || e.Kind == api.ELast || e.Kind == api.EWhen || e.Kind == api.EMerge {
			e.Name = v.Name
		}
	case 2:
		when := tree.When(*e, sampling(d, p, l))
		when.At = api.Pos{Line: e.At.Line, Col: 2}
		*e = when
	case 3:
		if e.Kind == api.EWhen {
			*e = e.Kids[0]
		}
	case 4:
		on := sampling(d, p, l)
		m := api.Expr{Kind: api.EMerge, Name: on.Var, At: api.Pos{Line: e.At.Line, Col: 2}}
		m.Names = tree.Ctors(p.Enums, v.T)
		for range m.Names {
			m.Kids = append(m.Kids, sample.Clone(*e))
		}
		*e = m
	case 5:
		v.Clock = append(slices.Clone(v.Clock), sampling(d, p, l))
	case 6:
		v.Clock = slices.Clone(sample.Some(d, l.Vars).Clock)
	case 7:
		if len(l.Clocks) > 0 {
			*sample.Some(d, l.Clocks) = sampling(d, p, l)
		}
	case 8:
		if q := sample.Some(d, l.Eqs); q.Kind == api.QCall {
			q.Has, q.E = true, sample.Clone(*e)
		}
	}
}

func TestSpoilt(t *testing.T) { // P9.1 to P9.3: programs in which something is changed
	var found [13]int
	for i := range 6000 {
		d := sample.Dice(i)
		p, err := parse.Program(show.Program(sample.Program(uint64(i % 1500))))
		if err != nil {
			t.Fatal(err)
		}
		l := sample.Apart(&p)
		if err := clocks.Check(p); err != nil {
			t.Fatalf("%s: %v", show.Program(p), err)
		}
		for range 1 + d.Below(3) {
			spoil(&d, &p, l)
		}
		if names.Check(p) != nil || types.Check(p) != nil {
			continue
		}
		err, want := clocks.Check(p), check(p)
		if faults.Text(err) != faults.Text(want) {
			t.Fatalf("%s: %v, not %v", show.Program(p), err, want)
		}
		found[faults.Kind(err)]++
	}
	if found[api.OK] < 500 || found[api.Clock] < 500 {
		t.Errorf("%d right, %d not", found[api.OK], found[api.Clock])
	}
}

// makeSmall makes an expression of numbers, with kids that are no deeper than that.
func makeSmall(d *sample.Dice, deep int) api.Expr {
	e := api.Expr{Kind: sample.Some(d, []byte{api.EInt, api.EVar, api.EVar, api.ELast}), N: 1}
	if deep > 0 && d.Below(5) > 0 {
		e.Kind = sample.Some(d, []byte{api.EUn, api.EBin, api.EIf, api.EFby, api.EPre, api.EArrow, api.EWhen, api.EWhen, api.EMerge, api.EMerge})
	}
	kids := [api.EMerge + 1]int{api.EUn: 1, api.EBin: 2, api.EFby: 1, api.EPre: 1, api.EArrow: 2, api.EIf: 2, api.EWhen: 1, api.EMerge: 2}[e.Kind]
	switch e.Kind {
	case api.EVar:
		e.Name = sample.Some(d, []string{"a", "w", "u", "x"})
	case api.ELast:
		e.Name = sample.Some(d, []string{"y", "w"})
	case api.EUn:
		e.Op = api.Neg
	case api.EBin:
		e.Op = api.Add
	case api.EIf:
		e.Kids = []api.Expr{tree.Name(sample.Some(d, []string{"b", "v"}))}
	case api.EFby:
		e.Kids = []api.Expr{tree.Int(0)}
	case api.EWhen, api.EMerge:
		e.Name, e.Names = "c", []string{"Red", "Green"}
		if d.Below(2) == 0 {
			e.Name, e.Names = sample.Some(d, []string{"b", "v"}), []string{"true", "false"}
		}
		if d.Below(2) == 0 {
			slices.Reverse(e.Names)
		}
		e.Names = e.Names[:kids]
	}
	for range kids {
		e.Kids = append(e.Kids, makeSmall(d, deep-1))
	}
	return e
}

func TestSmall(t *testing.T) { // P9.2: expressions of any kind, valid or not, each at a place of its own
	p, err := parse.Program(sampled(rest))
	if err != nil {
		t.Fatal(err)
	}
	right, wrong := 0, 0
	eqs := p.Nodes[4].B.Eqs
	for i := range 100000 {
		d := sample.Dice(i)
		e := makeSmall(&d, 1+d.Below(4))
		(&sample.Parts{}).Expr(&e)
		if _, err := types.Expr(p, slices.Concat(p.Nodes[4].Ins, p.Nodes[4].Outs, p.Nodes[4].B.Vars), e); err != nil {
			continue
		}
		for _, q := range []*api.Equation{&eqs[0], &eqs[2], &eqs[3]} {
			old := q.E
			q.E = e
			err, want := clocks.Check(p), check(p)
			if faults.Text(err) != faults.Text(want) {
				t.Fatalf("%s = %s: %v, not %v", q.Lhs[0], show.Expr(e), err, want)
			}
			if err != nil {
				wrong++
			} else if len(e.Kids) > 0 {
				right++
			}
			q.E = old
		}
	}
	if right < 5000 || wrong < 50000 {
		t.Errorf("%d right, %d not", right, wrong)
	}
}

func TestOrder(t *testing.T) { // P9.3: an expression itself comes ahead of its kids, these from left to right
	p, err := parse.Program(sampled(rest))
	if err != nil {
		t.Fatal(err)
	}
	at := func(e api.Expr, col int) api.Expr {
		e.At = api.Pos{Line: 7, Col: col}
		return e
	}
	read := func(name string, col int) api.Expr { return at(tree.Name(name), col) }
	when := func(kid api.Expr, ctor, name string, col int) api.Expr {
		return at(tree.When(kid, api.On{Ctor: ctor, Var: name}), col)
	}
	merge := func(name string, col int, kids ...api.Expr) api.Expr {
		return at(api.Expr{Kind: api.EMerge, Name: name, Names: []string{"true", "false"}, Kids: kids}, col)
	}
	for i, c := range []struct {
		of  string // the variable that is defined by it
		e   api.Expr
		col int
	}{
		{"w", when(read("a", 1), "Red", "c", 2), 0},
		{"w", when(read("w", 1), "Red", "c", 2), 1},
		{"w", when(read("w", 1), "Green", "c", 2), 2},
		{"w", when(read("w", 1), "true", "v", 2), 2},
		{"x", when(read("w", 1), "Red", "c", 2), 2},
		{"u", when(when(read("a", 1), "Red", "c", 2), "true", "v", 3), 0},
		{"u", when(when(read("w", 1), "Red", "c", 2), "true", "v", 3), 1},
		{"u", when(when(read("a", 1), "true", "v", 2), "true", "v", 3), 2},
		{"u", when(when(read("w", 1), "true", "v", 2), "Red", "c", 3), 3},
		{"u", when(read("a", 1), "Red", "c", 2), 2},
		{"x", merge("v", 1, read("w", 2), read("u", 3)), 1},
		{"x", merge("b", 1, read("w", 2), read("u", 3)), 2},
		{"x", merge("b", 1, when(read("a", 2), "true", "b", 3), read("u", 4)), 4},
		{"x", merge("b", 1, when(read("a", 2), "true", "b", 3), when(read("u", 4), "false", "b", 5)), 4},
		{"x", merge("b", 1, when(read("a", 2), "false", "b", 3), when(read("u", 4), "false", "b", 5)), 3},
		{"x", merge("b", 1, when(read("a", 2), "true", "b", 3), when(read("a", 4), "false", "b", 5)), 0},
		{"w", merge("v", 1, when(read("w", 2), "true", "v", 3), when(read("a", 4), "false", "v", 5)), 4},
		{"w", merge("b", 1, when(read("w", 2), "true", "v", 3), when(read("a", 4), "false", "v", 5)), 1},
		{"w", at(api.Expr{Kind: api.EIf, Kids: []api.Expr{read("v", 1), read("a", 2), read("u", 3)}}, 4), 2},
		{"w", at(api.Expr{Kind: api.EBin, Op: api.Add, Kids: []api.Expr{merge("b", 1, read("a", 2), read("a", 3)), read("a", 4)}}, 5), 1},
	} {
		for j := range p.Nodes[4].B.Eqs {
			q := &p.Nodes[4].B.Eqs[j]
			if q.Lhs[0] != c.of {
				continue
			}
			old := q.E
			q.E = c.e
			err := clocks.Check(p)
			if faults.Where(err).Col != c.col || (err == nil) != (c.col == 0) || faults.Text(err) != faults.Text(check(p)) {
				t.Errorf("%d: %v, not in column %d", i, err, c.col)
			}
			q.E = old
		}
	}
}

func TestIllFormed(t *testing.T) { // P1: nothing is promised but an end without a panic
	for i := range 4000 {
		d := sample.Dice(i)
		p := sample.Program(uint64(i % 300))
		l := sample.Apart(&p)
		for range 1 + d.Below(5) {
			q, e := sample.Some(&d, l.Eqs), sample.Some(&d, l.Exprs)
			if d.Below(3) == 0 {
				q.Kind, e.Kind = byte(d.Below(7)), byte(d.Below(15))
			}
			if d.Below(3) == 0 {
				q.Lhs, q.Arms, e.Names, e.Kids = nil, nil, nil, nil
			}
			if d.Below(3) == 0 {
				e.Names = e.Names[:len(e.Names)/2]
			}
			if d.Below(3) == 0 {
				q.Name, e.Name = "none", "None"
			}
			if d.Below(3) == 0 {
				sample.Some(&d, l.Vars).Name = sample.Some(&d, l.Vars).Name
			}
		}
		clocks.Check(p)
	}
}
