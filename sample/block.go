package sample

import (
	"slices"

	"metronome/api"
	"metronome/tree"
)

// item is variables that are defined together: by a call, if there is a node.
type item struct {
	vars []*known
	node *api.Node
}

// plain: can the item be defined by any equation?
func (it *item) plain() bool {
	return it.node == nil && len(it.vars[0].Clock) == 0 && !it.vars[0].late
}

// block makes a block that defines variables, and what is seen in it in the end. Its items are in an order in which each reads at once only what stands ahead of it.
func (m *maker) block(seen, define []*known, deep int) (api.Block, []*known) {
	items, seen := m.plan(seen, define, deep)
	m.sample(seen[:len(seen):len(seen)], define, items)
	var b api.Block
	for len(items) > 0 {
		n := 1
		if items[0].plain() && deep > 0 && m.once(3) {
			for n < len(items) && items[n].plain() && !m.once(3) {
				n++
			}
			b.Eqs = append(b.Eqs, m.nested(seen, items[:n], deep-1))
		} else {
			b.Eqs = append(b.Eqs, m.equation(seen, items[0]))
		}
		for _, it := range items[:n] {
			for _, v := range it.vars {
				v.ready = true
				if !slices.Contains(define, v) {
					b.Vars = append(b.Vars, v.Var)
				}
			}
		}
		items = items[n:]
	}
	mix(&m.Dice, b.Vars)
	mix(&m.Dice, b.Eqs)
	// A first value is a constant, so variables can be declared in any order.
	return b, seen
}

func mix[T any](d *Dice, l []T) {
	for i := range l {
		j := i + d.Below(len(l)-i)
		l[i], l[j] = l[j], l[i]
	}
}

// plan makes the items of a block, with variables of its own.
func (m *maker) plan(seen, define []*known, deep int) ([]*item, []*known) {
	var items []*item
	seen = slices.Clone(seen)
	own := func(t api.Type) *known {
		v := m.variable(seen, t, 4)
		seen = append(seen, v)
		return v
	}
	left := slices.Clone(define)
	if len(m.p.Nodes) > 0 && m.once(2) {
		it := &item{node: &m.p.Nodes[m.Below(len(m.p.Nodes))]}
		for _, o := range it.node.Outs {
			i := slices.IndexFunc(left, func(v *known) bool { return v.T == o.T })
			if i < 0 || m.once(2) {
				it.vars = append(it.vars, own(o.T))
				continue
			}
			it.vars = append(it.vars, left[i])
			left = slices.Delete(left, i, i+1)
		}
		items = append(items, it)
	}
	for range m.Below(2 + deep) {
		v := own(m.anyType())
		v.late = !v.Last && m.once(6)
		items = append(items, &item{vars: []*known{v}})
	}
	for _, v := range left {
		items = append(items, &item{vars: []*known{v}})
	}
	mix(&m.Dice, items)
	return items, seen
}

// sample puts some of a block's own variables on clocks: what samples them is defined ahead of them.
func (m *maker) sample(seen, define []*known, items []*item) {
	var ahead []*known
	for _, v := range seen {
		if v.ready && !v.away && !v.late {
			ahead = append(ahead, v)
		}
	}
	for _, it := range items {
		own := !slices.ContainsFunc(it.vars, func(v *known) bool { return slices.Contains(define, v) })
		if own && m.once(4) {
			clock := m.clock(ahead)
			for _, v := range it.vars {
				v.Clock = clock
			}
		}
		for _, v := range it.vars {
			if !v.late {
				ahead = append(ahead, v)
			}
		}
	}
}

// clock is one that some variable samples; the base clock, if there is none.
func (m *maker) clock(l []*known) []api.On {
	for range 3 {
		if len(l) == 0 {
			break
		}
		v := l[m.Below(len(l))]
		if ctors := tree.Ctors(m.p.Enums, v.T); len(ctors) > 0 && len(v.Clock) < 3 {
			return append(slices.Clone(v.Clock), api.On{Ctor: ctors[m.Below(len(ctors))], Var: v.Name})
		}
	}
	return nil
}

// equation makes a definition or a call.
func (m *maker) equation(seen []*known, it *item) api.Equation {
	v := it.vars[0]
	w := want{t: v.T, clock: v.Clock, now: true, deep: 3}
	if it.node == nil {
		e := m.expr
		if v.late {
			e = m.lateExpr
		}
		return api.Equation{Kind: api.QDef, Lhs: []string{v.Name}, E: e(seen, w)}
	}
	q := api.Equation{Kind: api.QCall, Name: it.node.Name, Has: m.once(3)}
	for _, v := range it.vars {
		q.Lhs = append(q.Lhs, v.Name)
	}
	w.deep = 2
	for _, v := range it.node.Ins {
		w.t = v.T
		q.Args = append(q.Args, m.expr(seen, w))
	}
	if q.Has {
		w.t = boolean
		q.E = m.expr(seen, w)
	}
	return q
}

// nested makes an equation with blocks that define the variables of items.
func (m *maker) nested(seen []*known, items []*item, deep int) api.Equation {
	var vars []*known
	for _, it := range items {
		vars = append(vars, it.vars...)
	}
	switch m.Below(3) {
	case 0:
		t := m.switchable()
		q := api.Equation{Kind: api.QSwitch, E: m.expr(seen, want{t: t, now: true, deep: 2})}
		m.arms(&q, tree.Ctors(m.p.Enums, t), seen, vars, deep)
		return q
	case 1:
		q := api.Equation{Kind: api.QAuto}
		m.arms(&q, []string{"A", "B", "C"}[:1+m.Below(3)], seen, vars, deep)
		return q
	}
	inner := inside(seen)
	b, _ := m.block(inner, same(inner, vars), deep)
	e := m.expr(seen, want{t: boolean, now: true, deep: 2})
	return api.Equation{Kind: api.QReset, E: e, Arms: []api.Arm{{B: b}}}
}

// inside is what is seen from a block within.
func inside(seen []*known) []*known {
	l := make([]*known, len(seen))
	for i, v := range seen {
		k := *v
		k.away = k.away || len(k.Clock) > 0
		l[i] = &k
	}
	return l
}

// same are the variables of the same names.
func same(l, vars []*known) []*known {
	var r []*known
	for _, v := range vars {
		r = append(r, l[slices.IndexFunc(l, func(k *known) bool { return k.Name == v.Name })])
	}
	return r
}

// arms makes the arms of a switch or an automaton. A variable with a last value is defined by one of them, and by others by chance.
func (m *maker) arms(q *api.Equation, names []string, seen, vars []*known, deep int) {
	always := m.Below(len(names))
	for i, name := range names {
		inner := inside(seen)
		define := same(inner, vars)
		if i != always {
			define = slices.DeleteFunc(define, func(v *known) bool { return v.Last && m.once(2) })
		}
		a := api.Arm{Name: name}
		b, end := m.block(inner, define, deep)
		a.B = b
		if q.Kind == api.QAuto {
			a.Unless = m.ways(names, seen, true)
			a.Until = m.ways(names, end, false)
		}
		q.Arms = append(q.Arms, a)
	}
	if q.Kind == api.QSwitch {
		mix(&m.Dice, q.Arms)
	}
}

func (m *maker) ways(states []string, seen []*known, now bool) []api.Trans {
	var l []api.Trans
	for range m.Below(3) {
		l = append(l, api.Trans{E: m.condition(seen, now), To: states[m.Below(len(states))], Resume: m.once(2)})
	}
	return l
}

// condition is a stateless bool.
func (m *maker) condition(seen []*known, now bool) api.Expr {
	return m.expr(seen, want{t: boolean, now: now, still: true, deep: 2})
}
