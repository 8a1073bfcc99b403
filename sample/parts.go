package sample

import (
	"slices"

	"metronome/api"
)

// Parts are what can be changed in a program.
type Parts struct {
	Exprs    []*api.Expr
	Vars     []*api.Var
	Eqs      []*api.Equation
	Clocks   []*api.On // of all variables
	Switches []*api.Equation
	places   int
}

// Apart are the parts of a program. Each gets a position of its own.
func Apart(p *api.Program) *Parts {
	l := &Parts{}
	for i := range p.Nodes {
		n := &p.Nodes[i]
		l.vars(n.Ins)
		l.vars(n.Outs)
		l.block(&n.B)
	}
	return l
}

func (l *Parts) place(at *api.Pos) {
	l.places++
	*at = api.Pos{Line: l.places, Col: 1}
}

// Expr adds an expression.
func (l *Parts) Expr(e *api.Expr) {
	l.place(&e.At)
	l.Exprs = append(l.Exprs, e)
	for i := range e.Kids {
		l.Expr(&e.Kids[i])
	}
}

func (l *Parts) vars(vars []api.Var) {
	for i := range vars {
		v := &vars[i]
		l.place(&v.At)
		l.Vars = append(l.Vars, v)
		for j := range v.Clock {
			l.Clocks = append(l.Clocks, &v.Clock[j])
		}
		if v.Last {
			l.Expr(&v.First)
		}
	}
}

func (l *Parts) ways(ways []api.Trans) {
	for i := range ways {
		l.place(&ways[i].At)
		l.Expr(&ways[i].E)
	}
}

func (l *Parts) block(b *api.Block) {
	l.vars(b.Vars)
	for i := range b.Eqs {
		q := &b.Eqs[i]
		l.place(&q.At)
		l.Eqs = append(l.Eqs, q)
		if q.Kind != api.QAuto && (q.Kind != api.QCall || q.Has) {
			l.Expr(&q.E)
		}
		for j := range q.Args {
			l.Expr(&q.Args[j])
		}
		if q.Kind == api.QSwitch {
			l.Switches = append(l.Switches, q)
		}
		for j := range q.Arms {
			a := &q.Arms[j]
			l.place(&a.At)
			l.ways(a.Unless)
			l.block(&a.B)
			l.ways(a.Until)
		}
	}
}

// Ctors are all constructors of a program.
func Ctors(p *api.Program) []string {
	l := []string{"true", "false"}
	for _, t := range p.Enums {
		l = append(l, t.Ctors...)
	}
	return l
}

// Clone is the same expression, which shares nothing with it: it can stand within it.
func Clone(e api.Expr) api.Expr {
	e.Names = slices.Clone(e.Names)
	e.Kids = slices.Clone(e.Kids)
	for i, k := range e.Kids {
		e.Kids[i] = Clone(k)
	}
	return e
}

// Some is one of some things.
func Some[T any](d *Dice, l []T) T { return l[d.Below(len(l))] }
