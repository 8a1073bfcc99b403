package tree

import (
	"metronome/api"
	"metronome/walk"
)

// pass and passBlock stand where a walk has nothing to do.
func pass(*api.Expr) bool { return true }

func passBlock(*api.Block) {}

// now are the kids whose variables an expression reads at once.
func now(e *api.Expr) []api.Expr {
	switch e.Kind {
	case api.EPre:
		return nil
	case api.EFby:
		return e.Kids[:min(1, len(e.Kids))]
	}
	return e.Kids
}

// reads are the variables that an expression reads in those kids that are asked for. What an EWhen samples comes ahead of the variable that it is sampled by.
func reads(e api.Expr, kids func(*api.Expr) []api.Expr) []string {
	var l names
	walk.Expr(&e, func(e *api.Expr) []api.Expr {
		if e.Kind == api.EVar || e.Kind == api.EMerge {
			l.add(e.Name)
		}
		return kids(e)
	}, func(e *api.Expr) bool {
		if e.Kind == api.EWhen {
			l.add(e.Name)
		}
		return true
	})
	return l.list
}

// walkBlock goes through a block and those in it: enter is called ahead of the equations of each, leave behind them, and equation for each of them, ahead of its arms.
func walkBlock(b *api.Block, enter func(*api.Block), equation func(*api.Equation), leave func(*api.Block)) {
	walk.Block(b, walk.Steps{Enter: endless(enter), Begin: endless(equation), Leave: endless(leave)})
}

// endless is a step that does not end the walk.
func endless[T any](step func(T)) func(T) error {
	return func(x T) error {
		step(x)
		return nil
	}
}

// left are the variables on the left side of an equation of a kind that has one.
func left(q *api.Equation) []string {
	switch q.Kind {
	case api.QSwitch, api.QAuto, api.QReset:
		return nil
	}
	return q.Lhs
}

// firsts calls visit for the first values of the variables of a block that have one.
func firsts(b *api.Block, visit func(*api.Expr)) {
	for i := range b.Vars {
		if b.Vars[i].Last {
			visit(&b.Vars[i].First)
		}
	}
}

// kids calls visit for the expressions that an equation contains directly.
func kids(q *api.Equation, visit func(*api.Expr)) {
	switch q.Kind {
	case api.QCall:
		for i := range q.Args {
			visit(&q.Args[i])
		}
		if q.Has {
			visit(&q.E)
		}
	case api.QDef, api.QSwitch, api.QReset:
		visit(&q.E)
	}
}

// ways calls visit for the conditions of the ways out of the arms of an equation.
func ways(q *api.Equation, visit func(*api.Expr)) {
	for _, a := range walk.Arms(q) {
		for i := range a.Unless {
			visit(&a.Unless[i].E)
		}
		for i := range a.Until {
			visit(&a.Until[i].E)
		}
	}
}

// names are gathered, each once, in the order in which they come.
type names struct {
	list []string
	seen map[string]struct{}
}

func (l *names) add(name string) {
	if _, ok := l.seen[name]; ok {
		return
	}
	if l.seen == nil {
		l.seen = map[string]struct{}{}
	}
	l.seen[name] = struct{}{}
	l.list = append(l.list, name)
}
