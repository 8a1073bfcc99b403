package sample

import (
	"slices"

	"metronome/api"
	"metronome/tree"
)

// want is what an expression has to be.
type want struct {
	t     api.Type
	clock []api.On
	now   bool // it reads only what is ready at once
	still bool // it is stateless
	deep  int
}

var boolean = api.Type{Kind: api.TBool}

// expr makes an expression that is defined at first.
func (m *maker) expr(seen []*known, w want) api.Expr {
	if w.deep == 0 || m.once(5) {
		return m.leaf(seen, w)
	}
	w.deep--
	choice := m.Below(9)
	switch {
	case choice == 0:
		return m.choose(seen, w)
	case choice == 1 && !w.still:
		w.now = false
		return api.Expr{Kind: api.EFby, Kids: []api.Expr{m.constant(w.t), m.expr(seen, w)}}
	case choice == 2 && !w.still:
		return api.Expr{Kind: api.EArrow, Kids: []api.Expr{m.expr(seen, w), m.lateExpr(seen, w)}}
	case choice == 3 && len(w.clock) > 0:
		return m.when(seen, w)
	case choice == 4:
		return m.merge(seen, w)
	}
	return m.operation(seen, w)
}

// leaf makes a constant, or reads a variable or a last value.
func (m *maker) leaf(seen []*known, w want) api.Expr {
	var l []api.Expr
	for _, v := range seen {
		if v.away || v.late || v.T != w.t || !slices.Equal(v.Clock, w.clock) {
			continue
		}
		if v.ready || !w.now {
			l = append(l, tree.Name(v.Name), tree.Name(v.Name))
		}
		if v.Last {
			l = append(l, api.Expr{Kind: api.ELast, Name: v.Name})
		}
	}
	if len(l) == 0 || m.once(6) {
		return m.constant(w.t)
	}
	return l[m.Below(len(l))]
}

// lateExpr makes an expression that may be undefined at first.
func (m *maker) lateExpr(seen []*known, w want) api.Expr {
	if m.once(4) {
		return m.expr(seen, w)
	}
	for _, v := range seen {
		if v.late && !v.away && v.T == w.t && slices.Equal(v.Clock, w.clock) && (v.ready || !w.now) && m.once(2) {
			return tree.Name(v.Name)
		}
	}
	w.now = false
	return api.Expr{Kind: api.EPre, Kids: []api.Expr{m.expr(seen, w)}}
}

func (m *maker) choose(seen []*known, w want) api.Expr {
	c := w
	c.t = boolean
	return api.Expr{Kind: api.EIf, Kids: []api.Expr{m.expr(seen, c), m.expr(seen, w), m.expr(seen, w)}}
}

// when samples an expression of the clock without its last sampling.
func (m *maker) when(seen []*known, w want) api.Expr {
	on := w.clock[len(w.clock)-1]
	w.clock, w.still = w.clock[:len(w.clock)-1], true
	return tree.When(m.expr(seen, w), on)
}

// merge makes a merge by a variable of the clock, if there is one.
func (m *maker) merge(seen []*known, w want) api.Expr {
	var l []*known
	for _, v := range seen {
		if !v.away && !v.late && v.T.Kind != api.TInt && slices.Equal(v.Clock, w.clock) && (v.ready || !w.now) {
			l = append(l, v)
		}
	}
	if len(l) == 0 {
		return m.leaf(seen, w)
	}
	v := l[m.Below(len(l))]
	ctors := tree.Ctors(m.p.Enums, v.T)
	mix(&m.Dice, ctors)
	e := api.Expr{Kind: api.EMerge, Name: v.Name, Names: ctors}
	for _, ctor := range ctors {
		kid := w
		kid.clock = append(slices.Clone(w.clock), api.On{Ctor: ctor, Var: v.Name})
		e.Kids = append(e.Kids, m.expr(seen, kid))
	}
	return e
}

// operation makes an expression with an operator, if there is one for the type.
func (m *maker) operation(seen []*known, w want) api.Expr {
	switch w.t.Kind {
	case api.TInt:
		if m.once(5) {
			return api.Expr{Kind: api.EUn, Op: api.Neg, Kids: []api.Expr{m.expr(seen, w)}}
		}
		return m.binary(seen, w, api.Add+byte(m.Below(5)))
	case api.TBool:
		switch m.Below(4) {
		case 0:
			return api.Expr{Kind: api.EUn, Op: api.Not, Kids: []api.Expr{m.expr(seen, w)}}
		case 1:
			w.t = m.anyType()
			return m.binary(seen, w, api.Eq+byte(m.Below(2)))
		case 2:
			w.t = api.Type{Kind: api.TInt}
			return m.binary(seen, w, api.Lt+byte(m.Below(4)))
		}
		return m.binary(seen, w, api.And+byte(m.Below(3)))
	}
	return m.choose(seen, w)
}

func (m *maker) binary(seen []*known, w want, op byte) api.Expr {
	return api.Expr{Kind: api.EBin, Op: op, Kids: []api.Expr{m.expr(seen, w), m.expr(seen, w)}}
}
