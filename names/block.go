package names

import (
	"slices"

	"metronome/api"
	"metronome/faults"
	"metronome/walk"
)

// branches are the arms of an equation that is being checked.
type branches struct {
	states map[string]int // of an automaton, each name, and the first arm that has it
	inner  []defined      // what the blocks of the arms define, as far as they are checked
}

// block checks a block, and answers what it defines.
func (c *checker) block(b *api.Block) (defined, error) {
	c.branches = []branches{{}}
	err := walk.Block(b, walk.Steps{Enter: c.enter, Begin: c.begin, Arm: c.arm, Exit: c.exit, Leave: c.leave, End: c.end})
	if err != nil {
		return defined{}, err
	}
	return c.branches[0].inner[0], nil
}

func (c *checker) enter(b *api.Block) error {
	for i := range b.Vars {
		if err := c.declare(&b.Vars[i], false); err != nil {
			return err
		}
	}
	for _, v := range b.Vars {
		if slices.ContainsFunc(v.Clock, c.unsampled) {
			return faults.New(api.Name, v.At)
		}
	}
	c.blocks = append(c.blocks, defined{})
	return nil
}

// unsampled: does the variable of a sampling or its constructor not exist?
func (c *checker) unsampled(on api.On) bool {
	_, visible := c.vars[on.Var]
	return !visible || !c.picks(on.Ctor)
}

// leave ends a block: its own variables have to be defined, and are no longer visible.
func (c *checker) leave(b *api.Block) error {
	d := pop(&c.blocks)
	if err := missing(b.Vars, &d); err != nil {
		return err
	}
	for _, v := range b.Vars {
		delete(c.vars, v.Name)
	}
	d.forget(b.Vars)
	l := top(c.branches)
	l.inner = append(l.inner, d)
	return nil
}

func (c *checker) begin(q *api.Equation) error {
	switch q.Kind {
	case api.QDef:
		if err := c.expr(&q.E); err != nil {
			return err
		}
		return c.define(q, q.Lhs)
	case api.QCall:
		if err := c.call(q); err != nil {
			return err
		}
		return c.define(q, q.Lhs)
	case api.QSwitch:
		if err := c.expr(&q.E); err != nil {
			return err
		}
	}
	l := branches{states: map[string]int{}}
	for i, a := range slices.Backward(q.Arms) {
		l.states[a.Name] = i
	}
	c.branches = append(c.branches, l)
	return nil
}

// define notes that an equation of the block defines variables: each has to be one that may be defined there, and is not defined yet.
func (c *checker) define(q *api.Equation, names []string) error {
	d := top(c.blocks)
	for _, name := range names {
		if !d.add(name) {
			return faults.New(api.Twice, q.At)
		}
		if v, visible := c.vars[name]; !visible || v.input {
			return faults.New(api.Name, q.At)
		}
	}
	return nil
}

func (c *checker) call(q *api.Equation) error {
	if !c.nodes.has(q.Name) {
		return faults.New(api.Name, q.At)
	}
	for i := range q.Args {
		if err := c.expr(&q.Args[i]); err != nil {
			return err
		}
	}
	if q.Has {
		return c.expr(&q.E)
	}
	return nil
}

func (c *checker) arm(q *api.Equation, i int) error {
	if q.Kind != api.QAuto {
		return nil
	}
	states := top(c.branches).states
	if a := &q.Arms[i]; states[a.Name] < i {
		return faults.New(api.Twice, a.At)
	}
	return c.ways(q.Arms[i].Unless, states)
}

func (c *checker) exit(q *api.Equation, i int) error {
	if q.Kind != api.QAuto {
		return nil
	}
	return c.ways(q.Arms[i].Until, top(c.branches).states)
}

// ways checks ways out of a state.
func (c *checker) ways(l []api.Trans, states map[string]int) error {
	for i := range l {
		if err := c.expr(&l[i].E); err != nil {
			return err
		}
		if _, ok := states[l[i].To]; !ok {
			return faults.New(api.Name, l[i].At)
		}
	}
	return nil
}

// end ends an equation: what its arms define, it defines.
func (c *checker) end(q *api.Equation) error {
	switch q.Kind {
	case api.QDef, api.QCall:
		return nil
	case api.QReset:
		if err := c.expr(&q.E); err != nil {
			return err
		}
	}
	l := pop(&c.branches)
	var all defined
	var needed []string
	for _, inner := range l.inner {
		for _, name := range inner.list {
			if all.add(name) && !c.vars[name].last {
				needed = append(needed, name)
			}
		}
	}
	// A variable that one arm defines has to be defined by each, if it has no last value.
	for i, a := range q.Arms {
		if slices.ContainsFunc(needed, func(name string) bool { return !l.inner[i].set.has(name) }) {
			return faults.New(api.Name, a.At)
		}
	}
	return c.define(q, all.list)
}

// top is what was put on a stack last.
func top[T any](l []T) *T { return &l[len(l)-1] }

// pop takes it off.
func pop[T any](l *[]T) T {
	x := *top(*l)
	*l = (*l)[:len(*l)-1]
	return x
}
