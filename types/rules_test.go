package types_test

import (
	"slices"

	"metronome/api"
	"metronome/faults"
	"metronome/nums"
	"metronome/tree"
)

// What follows are the rules of P8.1 and P8.2, word for word, as functions that call themselves and stop at the first error by a panic. What is visible is a list that is handed down.

type rules struct{ p api.Program }

var boolean, number = api.Type{Kind: api.TBool}, api.Type{Kind: api.TInt}

func failIf(bad bool, at api.Pos) {
	if bad {
		panic(faults.New(api.Typed, at))
	}
}

func caught(f func()) (err error) {
	defer func() {
		if r := recover(); r != nil {
			err = r.(error)
		}
	}()
	f()
	return nil
}

func typeOf(p api.Program, env []api.Var, e api.Expr) (t api.Type, err error) {
	err = caught(func() { t = rules{p}.expr(e, env, false) })
	return t, err
}

func check(p api.Program) error {
	return caught(func() {
		for _, n := range p.Nodes {
			rules{p}.node(n)
		}
	})
}

func (r rules) expr(e api.Expr, env []api.Var, first bool) api.Type {
	var kids []api.Type
	for _, k := range e.Kids {
		kids = append(kids, r.expr(k, env, first))
	}
	switch e.Kind {
	case api.EInt:
		return number
	case api.EBool:
		return boolean
	case api.ECtor:
		return api.Type{Kind: api.TEnum, Name: r.p.Enums[tree.CtorEnum(r.p.Enums, e.Name)].Name}
	case api.EUn, api.EBin:
		kind, result := nums.Types(e.Op)
		for _, t := range kids {
			failIf(t != kids[0] || kind != 0 && t.Kind != kind, e.At)
		}
		return api.Type{Kind: result}
	case api.EIf:
		failIf(kids[0] != boolean, e.At)
		failIf(kids[1] != kids[2], e.At)
		return kids[1]
	case api.EFby, api.EArrow:
		failIf(kids[0] != kids[1], e.At)
		return kids[0]
	case api.EPre:
		return kids[0]
	}
	failIf(first, e.At)
	v := env[tree.Find(env, e.Name)]
	ctors := tree.Ctors(r.p.Enums, v.T)
	switch e.Kind {
	case api.EWhen:
		failIf(!slices.Contains(ctors, e.Names[0]), e.At)
		failIf(!tree.Stateless(e.Kids[0]), e.At)
		return kids[0]
	case api.EMerge:
		l := slices.Clone(e.Names)
		slices.Sort(l)
		slices.Sort(ctors)
		failIf(!slices.Equal(l, ctors), e.At)
		for _, t := range kids {
			failIf(t != kids[0], e.At)
		}
		return kids[0]
	}
	return v.T
}

func (r rules) node(n api.Node) {
	faces := slices.Concat(n.Ins, n.Outs)
	r.vars(faces, faces)
	r.block(n.B, faces, nil)
}

func (r rules) vars(l, env []api.Var) {
	for _, v := range l {
		if v.Last {
			failIf(r.expr(v.First, nil, true) != v.T, v.At)
		}
		for _, on := range v.Clock {
			i := tree.Find(env, on.Var)
			failIf(i < 0 || !slices.Contains(tree.Ctors(r.p.Enums, env[i].T), on.Ctor), v.At)
		}
	}
}

func (r rules) block(b api.Block, env []api.Var, until []api.Trans) {
	env = slices.Concat(env, b.Vars)
	r.vars(b.Vars, env)
	for _, q := range b.Eqs {
		r.equation(q, env)
	}
	r.ways(until, env)
}

func (r rules) ways(l []api.Trans, env []api.Var) {
	for _, w := range l {
		r.truth(w.E, env)
		failIf(!tree.Stateless(w.E), w.At)
	}
}

func (r rules) truth(e api.Expr, env []api.Var) {
	failIf(r.expr(e, env, false) != boolean, e.At)
}

func (r rules) equation(q api.Equation, env []api.Var) {
	switch q.Kind {
	case api.QDef:
		failIf(r.expr(q.E, env, false) != env[tree.Find(env, q.Lhs[0])].T, q.At)
	case api.QCall:
		n := r.p.Nodes[tree.FindNode(r.p, q.Name)]
		failIf(len(q.Args) != len(n.Ins) || len(q.Lhs) != len(n.Outs), q.At)
		for i, a := range q.Args {
			failIf(r.expr(a, env, false) != n.Ins[i].T, a.At)
		}
		for i, name := range q.Lhs {
			failIf(env[tree.Find(env, name)].T != n.Outs[i].T, q.At)
		}
		if q.Has {
			r.truth(q.E, env)
		}
	case api.QReset:
		r.block(q.Arms[0].B, env, nil)
		r.truth(q.E, env)
	case api.QSwitch:
		t := r.expr(q.E, env, false)
		failIf(t == number, q.E.At)
		ctors := tree.Ctors(r.p.Enums, t)
		for i, a := range q.Arms {
			failIf(slices.ContainsFunc(q.Arms[:i], func(b api.Arm) bool { return a.Name == b.Name }), a.At)
			failIf(!slices.Contains(ctors, a.Name), a.At)
			r.block(a.B, env, nil)
		}
		failIf(len(q.Arms) < len(ctors), q.At)
	case api.QAuto:
		for _, a := range q.Arms {
			r.ways(a.Unless, env)
			r.block(a.B, env, a.Until)
		}
	}
}
