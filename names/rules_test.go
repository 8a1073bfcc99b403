package names_test

import (
	"slices"

	"metronome/api"
	"metronome/faults"
	"metronome/tree"
)

// What follows are the rules of P7.1, word for word, as functions that call themselves and stop at the first error by a panic. What is visible is a list that is handed down.

type rules struct {
	p api.Program
	n api.Node
}

func fail(k api.Kind, at api.Pos) { panic(faults.New(k, at)) }

func failIf(bad bool, k api.Kind, at api.Pos) {
	if bad {
		fail(k, at)
	}
}

func check(p api.Program) (err error) {
	defer func() {
		if r := recover(); r != nil {
			err = r.(error)
		}
	}()
	r := rules{p: p}
	for i, t := range p.Enums {
		earlier := p.Enums[:i]
		failIf(tree.FindEnum(earlier, t.Name) >= 0, api.Twice, t.At)
		for j, c := range t.Ctors {
			failIf(tree.CtorEnum(earlier, c) >= 0 || slices.Contains(t.Ctors[:j], c), api.Twice, t.At)
		}
	}
	for i, n := range p.Nodes {
		failIf(tree.FindNode(api.Program{Nodes: p.Nodes[:i]}, n.Name) >= 0, api.Twice, n.At)
	}
	for _, n := range p.Nodes {
		r.n = n
		r.node()
	}
	for _, n := range p.Nodes {
		failIf(slices.Contains(needs(p, n.Name), n.Name), api.Loop, n.At)
	}
	return nil
}

func (r rules) node() {
	seen := r.vars(nil, r.n.Ins)
	seen = r.vars(seen, r.n.Outs)
	// Of the variables visible in the block of a node, all but the inputs may be defined.
	r.block(r.n.B, seen, r.n.Outs, func([]api.Var) {})
	for _, v := range r.n.Outs {
		failIf(!slices.Contains(tree.BlockDefines(r.n.B), v.Name), api.Name, v.At)
	}
}

func (r rules) vars(seen, l []api.Var) []api.Var {
	for _, v := range l {
		failIf(tree.Find(seen, v.Name) >= 0, api.Twice, v.At)
		failIf(v.T.Kind != api.TBool && v.T.Kind != api.TInt && (v.T.Kind != api.TEnum || tree.FindEnum(r.p.Enums, v.T.Name) < 0), api.Name, v.At)
		if v.Last {
			r.expr(v.First, seen)
		}
		seen = append(seen[:len(seen):len(seen)], v)
	}
	return seen
}

func (r rules) noCtor(c string) bool {
	return c != "true" && c != "false" && tree.CtorEnum(r.p.Enums, c) < 0
}

func (r rules) expr(e api.Expr, seen []api.Var) {
	for _, k := range e.Kids {
		r.expr(k, seen)
	}
	i := tree.Find(seen, e.Name)
	switch e.Kind {
	case api.EVar, api.EWhen, api.EMerge:
		failIf(i < 0, api.Name, e.At)
	case api.ELast:
		failIf(i < 0 || !seen[i].Last, api.Name, e.At)
	case api.ECtor:
		failIf(tree.CtorEnum(r.p.Enums, e.Name) < 0, api.Name, e.At)
	}
	if e.Kind == api.EWhen || e.Kind == api.EMerge {
		failIf(slices.ContainsFunc(e.Names, r.noCtor), api.Name, e.At)
	}
}

func (r rules) block(b api.Block, seen, may []api.Var, until func(seen []api.Var)) {
	seen = r.vars(seen, b.Vars)
	may = append(may[:len(may):len(may)], b.Vars...)
	for _, v := range b.Vars {
		for _, on := range v.Clock {
			failIf(tree.Find(seen, on.Var) < 0 || r.noCtor(on.Ctor), api.Name, v.At)
		}
	}
	var earlier []string
	for _, q := range b.Eqs {
		r.equation(q, seen, may)
		l := tree.Defines(q)
		if q.Kind == api.QDef || q.Kind == api.QCall {
			l = q.Lhs
		}
		for _, name := range l {
			failIf(slices.Contains(earlier, name), api.Twice, q.At)
			failIf(tree.Find(may, name) < 0, api.Name, q.At)
			earlier = append(earlier, name)
		}
	}
	until(seen)
	for _, v := range b.Vars {
		failIf(!slices.Contains(earlier, v.Name), api.Name, v.At)
	}
}

func (r rules) equation(q api.Equation, seen, may []api.Var) {
	switch q.Kind {
	case api.QDef:
		r.expr(q.E, seen)
	case api.QCall:
		failIf(tree.FindNode(r.p, q.Name) < 0, api.Name, q.At)
		for _, a := range q.Args {
			r.expr(a, seen)
		}
		if q.Has {
			r.expr(q.E, seen)
		}
	case api.QReset:
		r.block(q.Arms[0].B, seen, may, func([]api.Var) {})
		r.expr(q.E, seen)
	case api.QSwitch:
		r.expr(q.E, seen)
		r.arms(q, seen, may)
	case api.QAuto:
		r.arms(q, seen, may)
	}
}

func (r rules) arms(q api.Equation, seen, may []api.Var) {
	state := func(name string) func(api.Arm) bool {
		return func(a api.Arm) bool { return a.Name == name }
	}
	ways := func(l []api.Trans, seen []api.Var) {
		for _, w := range l {
			r.expr(w.E, seen)
			failIf(!slices.ContainsFunc(q.Arms, state(w.To)), api.Name, w.At)
		}
	}
	for i, a := range q.Arms {
		if q.Kind == api.QAuto {
			failIf(slices.ContainsFunc(q.Arms[:i], state(a.Name)), api.Twice, a.At)
			ways(a.Unless, seen)
		}
		r.block(a.B, seen, may, func(seen []api.Var) {
			if q.Kind == api.QAuto {
				ways(a.Until, seen)
			}
		})
	}
	for _, a := range q.Arms {
		for _, other := range q.Arms {
			for _, name := range tree.BlockDefines(other.B) {
				v := may[tree.Find(may, name)]
				failIf(!v.Last && !slices.Contains(tree.BlockDefines(a.B), name), api.Name, a.At)
			}
		}
	}
}

// needs are the names that Needs has to return: level by level.
func needs(p api.Program, name string) []string {
	var l []string
	level := []string{name}
	for len(level) > 0 {
		var next []string
		for _, name := range level {
			i := tree.FindNode(p, name)
			if i < 0 {
				continue
			}
			for _, c := range tree.Calls(p.Nodes[i].B) {
				if tree.FindNode(p, c) >= 0 && !slices.Contains(l, c) {
					l, next = append(l, c), append(next, c)
				}
			}
		}
		level = next
	}
	return l
}

// order are the names that Order has to return.
func order(p api.Program) []string {
	var l []string
	for len(l) < len(p.Nodes) {
		i := slices.IndexFunc(p.Nodes, func(n api.Node) bool {
			return !slices.Contains(l, n.Name) && !slices.ContainsFunc(tree.Calls(n.B), func(c string) bool {
				return tree.FindNode(p, c) >= 0 && !slices.Contains(l, c)
			})
		})
		if i < 0 {
			return nil
		}
		l = append(l, p.Nodes[i].Name)
	}
	return l
}
