package names

import (
	"slices"

	"metronome/api"
	"metronome/faults"
)

// block checks a block and gathers in d what it defines; exits are what to check last of what sees its variables: the weak ways out of a state.
func (c *checker) block(b *api.Block, d *defined, exits func() error) error {
	for i := range b.Vars {
		if err := c.declare(&b.Vars[i], false); err != nil {
			return err
		}
	}
	for _, v := range b.Vars {
		if slices.ContainsFunc(v.Clock, c.unsampled) {
			return faults.New(api.Name, v.At)
		}
	}
	c.todo.Then(
		func() error { return c.equations(b.Eqs, d) },
		exits,
		func() error { return c.leave(b, d) },
	)
	return nil
}

// unsampled: does the variable of a sampling or its constructor not exist?
func (c *checker) unsampled(on api.On) bool {
	_, visible := c.vars[on.Var]
	return !visible || !c.picks(on.Ctor)
}

// leave ends a block: its own variables have to be defined, and are no longer visible.
func (c *checker) leave(b *api.Block, d *defined) error {
	if err := missing(b.Vars, d); err != nil {
		return err
	}
	for _, v := range b.Vars {
		delete(c.vars, v.Name)
	}
	d.forget(b.Vars)
	return nil
}

// equations checks equations, one by one; d is what the block defines ahead of them.
func (c *checker) equations(l []api.Equation, d *defined) error {
	if len(l) == 0 {
		return nil
	}
	q := &l[0]
	c.todo.Then(
		func() error { return c.equation(q, d) },
		func() error { return c.equations(l[1:], d) },
	)
	return nil
}

func (c *checker) equation(q *api.Equation, d *defined) error {
	switch q.Kind {
	case api.QDef:
		if err := c.expr(&q.E); err != nil {
			return err
		}
		return c.define(q, q.Lhs, d)
	case api.QCall:
		if err := c.call(q); err != nil {
			return err
		}
		return c.define(q, q.Lhs, d)
	case api.QSwitch:
		if err := c.expr(&q.E); err != nil {
			return err
		}
		c.arms(q, d)
	case api.QAuto:
		c.arms(q, d)
	case api.QReset:
		c.reset(q, d)
	}
	return nil
}

// define notes that an equation defines variables: each has to be one that may be defined there, and is not defined yet.
func (c *checker) define(q *api.Equation, names []string, d *defined) error {
	for _, name := range names {
		if !d.add(name) {
			return faults.New(api.Twice, q.At)
		}
		if v, visible := c.vars[name]; !visible || v.input {
			return faults.New(api.Name, q.At)
		}
	}
	return nil
}

func (c *checker) call(q *api.Equation) error {
	if !c.nodes.has(q.Name) {
		return faults.New(api.Name, q.At)
	}
	for i := range q.Args {
		if err := c.expr(&q.Args[i]); err != nil {
			return err
		}
	}
	if q.Has {
		return c.expr(&q.E)
	}
	return nil
}

func (c *checker) reset(q *api.Equation, d *defined) {
	if len(q.Arms) == 0 {
		return
	}
	var inner defined
	c.todo.Then(
		func() error { return c.block(&q.Arms[0].B, &inner, nothing) },
		func() error { return c.expr(&q.E) },
		func() error { return c.define(q, inner.list, d) },
	)
}

// branches are the arms of an equation that is being checked.
type branches struct {
	q      *api.Equation
	states map[string]int // of an automaton, each name, and the first arm that has it
	inner  []defined      // what the block of each arm defines
}

// arms checks the arms of a switch or an automaton, one by one.
func (c *checker) arms(q *api.Equation, d *defined) {
	l := &branches{q: q, inner: make([]defined, len(q.Arms)), states: map[string]int{}}
	for i, a := range slices.Backward(q.Arms) {
		l.states[a.Name] = i
	}
	c.todo.Then(
		func() error { return c.arm(l, 0) },
		func() error { return c.complete(l, d) },
	)
}

// arm checks the arms from i on.
func (c *checker) arm(l *branches, i int) error {
	if i == len(l.q.Arms) {
		return nil
	}
	a := &l.q.Arms[i]
	exits := nothing
	if l.q.Kind == api.QAuto {
		if l.states[a.Name] < i {
			return faults.New(api.Twice, a.At)
		}
		if err := c.ways(a.Unless, l.states); err != nil {
			return err
		}
		exits = func() error { return c.ways(a.Until, l.states) }
	}
	c.todo.Then(
		func() error { return c.block(&a.B, &l.inner[i], exits) },
		func() error { return c.arm(l, i+1) },
	)
	return nil
}

// ways checks ways out of a state.
func (c *checker) ways(l []api.Trans, states map[string]int) error {
	for i := range l {
		if err := c.expr(&l[i].E); err != nil {
			return err
		}
		if _, ok := states[l[i].To]; !ok {
			return faults.New(api.Name, l[i].At)
		}
	}
	return nil
}

// complete ends the arms: a variable that one of them defines has to be defined by each, if it has no last value.
func (c *checker) complete(l *branches, d *defined) error {
	var all defined
	var needed []string
	for _, inner := range l.inner {
		for _, name := range inner.list {
			if all.add(name) && !c.vars[name].last {
				needed = append(needed, name)
			}
		}
	}
	for i, a := range l.q.Arms {
		if slices.ContainsFunc(needed, func(name string) bool { return !l.inner[i].set.has(name) }) {
			return faults.New(api.Name, a.At)
		}
	}
	return c.define(l.q, all.list, d)
}
