package tree

import (
	"metronome/api"
	"metronome/walk"
)

// pass and passBlock stand where a walk has nothing to do.
func pass(*api.Expr) bool { return true }

func passBlock(*api.Block) {}

// now are the kids whose variables an expression reads at once.
func now(e *api.Expr) []api.Expr {
	switch e.Kind {
	case api.EPre:
		return nil
	case api.EFby:
		return e.Kids[:min(1, len(e.Kids))]
	}
	return e.Kids
}

// reads are the variables that an expression reads in those kids that are asked for. What an EWhen samples comes ahead of the variable that it is sampled by.
func reads(e api.Expr, kids func(*api.Expr) []api.Expr) []string {
	var l names
	walk.Expr(&e, func(e *api.Expr) []api.Expr {
		if e.Kind == api.EVar || e.Kind == api.EMerge {
			l.add(e.Name)
		}
		return kids(e)
	}, func(e *api.Expr) bool {
		if e.Kind == api.EWhen {
			l.add(e.Name)
		}
		return true
	})
	return l.list
}

// inside is a block that is being gone through: what is left of its equations, and of the arms of the one that was begun last.
type inside struct {
	b    *api.Block
	eqs  []api.Equation
	arms []api.Arm
}

// walkBlock goes through a block and those in it: enter is called ahead of the equations of each, leave behind them, and equation for each of them, ahead of its arms.
func walkBlock(b *api.Block, enter func(*api.Block), equation func(*api.Equation), leave func(*api.Block)) {
	enter(b)
	stack := []inside{{b: b, eqs: b.Eqs}}
	for len(stack) > 0 {
		top := &stack[len(stack)-1]
		switch {
		case len(top.arms) > 0:
			b := &top.arms[0].B
			top.arms = top.arms[1:]
			enter(b)
			stack = append(stack, inside{b: b, eqs: b.Eqs})
		case len(top.eqs) > 0:
			q := &top.eqs[0]
			top.eqs = top.eqs[1:]
			equation(q)
			top.arms = arms(q)
		default:
			leave(top.b)
			stack = stack[:len(stack)-1]
		}
	}
}

// arms are those of an equation of a kind that has some.
func arms(q *api.Equation) []api.Arm {
	if q.Kind == api.QDef || q.Kind == api.QCall {
		return nil
	}
	return q.Arms
}

// left are the variables on the left side of an equation of a kind that has one.
func left(q *api.Equation) []string {
	switch q.Kind {
	case api.QSwitch, api.QAuto, api.QReset:
		return nil
	}
	return q.Lhs
}

// firsts calls visit for the first values of the variables of a block that have one.
func firsts(b *api.Block, visit func(*api.Expr)) {
	for i := range b.Vars {
		if b.Vars[i].Last {
			visit(&b.Vars[i].First)
		}
	}
}

// kids calls visit for the expressions that an equation contains directly.
func kids(q *api.Equation, visit func(*api.Expr)) {
	switch q.Kind {
	case api.QCall:
		for i := range q.Args {
			visit(&q.Args[i])
		}
		if q.Has {
			visit(&q.E)
		}
	case api.QDef, api.QSwitch, api.QReset:
		visit(&q.E)
	}
}

// ways calls visit for the conditions of the ways out of the arms of an equation.
func ways(q *api.Equation, visit func(*api.Expr)) {
	for _, a := range arms(q) {
		for i := range a.Unless {
			visit(&a.Unless[i].E)
		}
		for i := range a.Until {
			visit(&a.Until[i].E)
		}
	}
}

// names are gathered, each once, in the order in which they come.
type names struct {
	list []string
	seen map[string]struct{}
}

func (l *names) add(name string) {
	if _, ok := l.seen[name]; ok {
		return
	}
	if l.seen == nil {
		l.seen = map[string]struct{}{}
	}
	l.seen[name] = struct{}{}
	l.list = append(l.list, name)
}
