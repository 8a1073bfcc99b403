package types_test

import (
	"slices"
	"testing"

	"metronome/api"
	"metronome/faults"
	"metronome/names"
	"metronome/parse"
	"metronome/sample"
	"metronome/show"
	"metronome/tree"
	"metronome/types"
)

// dice are numbers that look thrown, the same in each run.
type dice uint64

func (d *dice) throw(n int) int {
	*d = *d*6364136223846793005 + 1442695040888963407
	return int(*d>>33) % n
}

// some is one of some things.
func some[T any](d *dice, l []T) T { return l[d.throw(len(l))] }

// parts are what can be spoilt in a program.
type parts struct {
	exprs   []*api.Expr
	vars    []*api.Var
	eqs     []*api.Equation
	clocks  []*api.On
	choices []*api.Equation // switches
	at      int
}

// place gives each part a place of its own.
func (l *parts) place(at *api.Pos) {
	l.at++
	*at = api.Pos{Line: l.at, Col: 1}
}

func (l *parts) expr(e *api.Expr) {
	l.place(&e.At)
	l.exprs = append(l.exprs, e)
	for i := range e.Kids {
		l.expr(&e.Kids[i])
	}
}

func (l *parts) list(vars []api.Var) {
	for i := range vars {
		v := &vars[i]
		l.place(&v.At)
		l.vars = append(l.vars, v)
		for j := range v.Clock {
			l.clocks = append(l.clocks, &v.Clock[j])
		}
		if v.Last {
			l.expr(&v.First)
		}
	}
}

func (l *parts) ways(ways []api.Trans) {
	for i := range ways {
		l.place(&ways[i].At)
		l.expr(&ways[i].E)
	}
}

func (l *parts) block(b *api.Block) {
	l.list(b.Vars)
	for i := range b.Eqs {
		q := &b.Eqs[i]
		l.place(&q.At)
		l.eqs = append(l.eqs, q)
		if q.Kind != api.QAuto && (q.Kind != api.QCall || q.Has) {
			l.expr(&q.E)
		}
		for j := range q.Args {
			l.expr(&q.Args[j])
		}
		if q.Kind == api.QSwitch {
			l.choices = append(l.choices, q)
		}
		for j := range q.Arms {
			a := &q.Arms[j]
			l.place(&a.At)
			l.ways(a.Unless)
			l.block(&a.B)
			l.ways(a.Until)
		}
	}
}

func all(p *api.Program) *parts {
	l := &parts{}
	for i := range p.Nodes {
		n := &p.Nodes[i]
		l.list(n.Ins)
		l.list(n.Outs)
		l.block(&n.B)
	}
	return l
}

// ctors are all constructors of a program.
func ctors(p *api.Program) []string {
	l := []string{"true", "false"}
	for _, t := range p.Enums {
		l = append(l, t.Ctors...)
	}
	return l
}

// clone is the same expression, which shares nothing with it: it can stand within it.
func clone(e api.Expr) api.Expr {
	e.Kids = slices.Clone(e.Kids)
	for i, k := range e.Kids {
		e.Kids[i] = clone(k)
	}
	return e
}

// spoil changes something by chance.
func spoil(d *dice, p *api.Program, l *parts) {
	switch e := some(d, l.exprs); d.throw(9) {
	case 0:
		at := e.At
		*e = clone(*some(d, l.exprs))
		e.At = at
	case 1:
		some(d, l.vars).T = some(d, l.vars).T
	case 2:
		e.Op = some(d, l.exprs).Op
		if len(e.Names) > 0 {
			e.Names = slices.Clone(e.Names)
			e.Names[d.throw(len(e.Names))] = some(d, ctors(p))
		}
	case 3:
		*e = api.Expr{Kind: some(d, []byte{api.EPre, api.EArrow, api.EFby}), Kids: []api.Expr{*e, tree.Int(0)}, At: e.At}
		if e.Kind == api.EPre {
			e.Kids = e.Kids[:1]
		}
	case 4:
		e.Name = some(d, l.vars).Name
	case 5:
		if len(l.clocks) > 0 {
			*some(d, l.clocks) = api.On{Ctor: some(d, ctors(p)), Var: some(d, l.vars).Name}
		}
	case 6:
		v := some(d, l.vars)
		v.Clock = append(slices.Clone(v.Clock), api.On{Ctor: some(d, ctors(p)), Var: some(d, l.vars).Name})
	case 7:
		if len(l.choices) > 0 {
			if q := some(d, l.choices); len(q.Arms) > 0 {
				arms(d, p, q)
			}
		}
	case 8:
		equation(d, l, some(d, l.eqs))
	}
}

// arms changes the arms of a switch.
func arms(d *dice, p *api.Program, q *api.Equation) {
	i := d.throw(len(q.Arms))
	switch d.throw(3) {
	case 0:
		q.Arms = slices.Delete(slices.Clone(q.Arms), i, i+1)
	case 1:
		q.Arms[i].Name = some(d, ctors(p))
	case 2:
		a := q.Arms[i]
		a.Name, a.At.Col = some(d, ctors(p)), 2
		q.Arms = slices.Insert(slices.Clone(q.Arms), d.throw(len(q.Arms)+1), a)
	}
}

// equation changes a call.
func equation(d *dice, l *parts, q *api.Equation) {
	if q.Kind != api.QCall {
		return
	}
	switch d.throw(4) {
	case 0:
		q.Args = append(slices.Clone(q.Args), clone(*some(d, l.exprs)))
	case 1:
		q.Args = q.Args[:len(q.Args)/2]
	case 2:
		q.Has, q.E = true, clone(*some(d, l.exprs))
	case 3:
		q.Lhs = slices.Clone(q.Lhs)
		i, j := d.throw(len(q.Lhs)), d.throw(len(q.Lhs))
		q.Lhs[i], q.Lhs[j] = q.Lhs[j], q.Lhs[i]
	}
}

func TestSpoilt(t *testing.T) { // P8.2: programs in which something is changed
	var found [13]int
	for i := range 8000 {
		d := dice(i)
		p, err := parse.Program(show.Program(sample.Program(uint64(i % 1500))))
		if err != nil {
			t.Fatal(err)
		}
		l := all(&p)
		if err := types.Check(p); err != nil {
			t.Fatalf("%s: %v", show.Program(p), err)
		}
		for range 1 + d.throw(2) {
			spoil(&d, &p, l)
		}
		if names.Check(p) != nil {
			continue
		}
		err, want := types.Check(p), check(p)
		if faults.Text(err) != faults.Text(want) {
			t.Fatalf("%s: %v, not %v", show.Program(p), err, want)
		}
		found[faults.Kind(err)]++
	}
	if found[api.OK] < 500 || found[api.Typed] < 500 {
		t.Errorf("%d right, %d not", found[api.OK], found[api.Typed])
	}
}

// small makes an expression of any kind, with kids that are no deeper than that.
func small(d *dice, deep int) api.Expr {
	e := api.Expr{Kind: 1 + byte(d.throw(int(api.ELast))), N: int32(d.throw(2))}
	if deep > 0 {
		e.Kind = 1 + byte(d.throw(int(api.EMerge)))
	}
	kids := [api.EMerge + 1]int{api.EUn: 1, api.EBin: 2, api.EIf: 3, api.EFby: 2, api.EPre: 1, api.EArrow: 2, api.EWhen: 1, api.EMerge: 2}[e.Kind]
	switch e.Kind {
	case api.ECtor:
		e.Name = some(d, []string{"Red", "One"})
	case api.EVar:
		e.Name = some(d, env).Name
	case api.ELast:
		e.Name = some(d, []string{"x", "y"})
	case api.EUn:
		e.Op = some(d, []byte{api.Not, api.Neg})
	case api.EBin:
		e.Op = api.Add + byte(d.throw(int(api.Ge-api.Add)+1))
	case api.EWhen:
		e.Name, e.Names = some(d, []string{"b", "c"}), []string{some(d, []string{"true", "false", "Red"})}
	case api.EMerge:
		e.Name, e.Names = some(d, []string{"b", "c", "d"}), some(d, [][]string{{"true", "false"}, {"Green", "Red"}, {"One"}})
		kids = len(e.Names)
	}
	for range kids {
		e.Kids = append(e.Kids, small(d, deep-1))
	}
	return e
}

func TestSmall(t *testing.T) { // P8.1: expressions of any kind, right or not
	p, _ := read(t, declared)
	right := 0
	for i := range 400000 {
		d := dice(i)
		e := small(&d, 1+d.throw(3))
		(&parts{}).expr(&e)
		typ, err := types.Expr(p, env, e)
		if want, wrong := typeOf(p, env, e); typ != want || faults.Text(err) != faults.Text(wrong) {
			t.Fatalf("%s: %v, %v, not %v, %v", show.Expr(e), typ, err, want, wrong)
		}
		if err == nil && len(e.Kids) > 0 {
			right++
		}
	}
	if right < 10000 {
		t.Errorf("only %d right", right)
	}
}

func TestIllFormed(t *testing.T) { // P1: nothing is promised but an end without a panic
	for i := range 5000 {
		d := dice(i)
		p := sample.Program(uint64(i % 300))
		l := all(&p)
		for range 1 + d.throw(5) {
			q, e := some(&d, l.eqs), some(&d, l.exprs)
			q.Kind, e.Kind = byte(d.throw(7)), byte(d.throw(15))
			if d.throw(3) == 0 {
				q.Lhs, q.Arms, e.Names, e.Kids = nil, nil, nil, nil
			}
			if d.throw(3) == 0 {
				q.Name, e.Name = "none", "None"
			}
		}
		types.Check(p)
		for _, e := range l.exprs {
			types.Expr(p, p.Nodes[0].Ins, *e)
		}
	}
}
