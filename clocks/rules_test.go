package clocks_test

import (
	"slices"

	"metronome/api"
	"metronome/faults"
	"metronome/tree"
)

// What follows are the rules of P9.1 to P9.3, word for word, as functions that call themselves and stop at the first error by a panic.

// readable are the variables that can be read in a block, each with its clock there.
type readable []api.Var

func failIf(bad bool, at api.Pos) {
	if bad {
		panic(faults.New(api.Clock, at))
	}
}

func check(p api.Program) (err error) {
	defer func() {
		if r := recover(); r != nil {
			err = r.(error)
		}
	}()
	for _, n := range p.Nodes {
		faces := slices.Concat(n.Ins, n.Outs)
		for _, v := range faces {
			failIf(len(v.Clock) > 0, v.At)
		}
		block(n.B, faces, nil)
	}
	return nil
}

// within are the variables that can be read in a block within, but for its own.
func within(env readable) readable {
	return slices.DeleteFunc(slices.Clone(env), func(v api.Var) bool { return len(v.Clock) > 0 })
}

// on: can the variable be read, and has it that clock?
func (env readable) on(name string, ck []api.On) bool {
	i := tree.Find(env, name)
	return i >= 0 && slices.Equal(env[i].Clock, ck)
}

func block(b api.Block, around readable, until []api.Trans) {
	env := slices.Concat(around, b.Vars)
	for _, v := range b.Vars {
		for i, on := range v.Clock {
			failIf(!env.on(on.Var, v.Clock[:i]), v.At)
		}
	}
	for _, q := range b.Eqs {
		env.equation(q)
	}
	env.ways(until)
}

func (env readable) ways(l []api.Trans) {
	for _, w := range l {
		env.valid(w.E, nil)
	}
}

func (env readable) equation(q api.Equation) {
	switch q.Kind {
	case api.QDef:
		i := tree.Find(env, q.Lhs[0])
		failIf(i < 0, q.At)
		env.valid(q.E, env[i].Clock)
		return
	case api.QCall:
		var ck []api.On
		for i, name := range q.Lhs {
			j := tree.Find(env, name)
			failIf(j < 0, q.At)
			failIf(i > 0 && !slices.Equal(env[j].Clock, ck), q.At)
			ck = env[j].Clock
		}
		for _, a := range q.Args {
			env.valid(a, ck)
		}
		if q.Has {
			env.valid(q.E, ck)
		}
		return
	case api.QSwitch:
		env.valid(q.E, nil)
	}
	for _, a := range q.Arms {
		if q.Kind != api.QAuto {
			a.Unless, a.Until = nil, nil
		}
		env.ways(a.Unless)
		block(a.B, within(env), a.Until)
	}
	for _, name := range tree.Defines(q) {
		failIf(!env.on(name, nil), q.At)
	}
	if q.Kind == api.QReset {
		env.valid(q.E, nil)
	}
}

func (env readable) valid(e api.Expr, ck []api.On) {
	switch e.Kind {
	case api.EInt, api.EBool, api.ECtor:
		return
	case api.EVar, api.ELast:
		failIf(!env.on(e.Name, ck), e.At)
		return
	case api.EWhen:
		n := len(ck) - 1
		failIf(n < 0 || ck[n] != api.On{Ctor: e.Names[0], Var: e.Name}, e.At)
		failIf(!env.on(e.Name, ck[:n]), e.At)
		env.valid(e.Kids[0], ck[:n])
		return
	case api.EMerge:
		failIf(!env.on(e.Name, ck), e.At)
		for i, k := range e.Kids {
			env.valid(k, slices.Concat(ck, []api.On{{Ctor: e.Names[i], Var: e.Name}}))
		}
		return
	}
	for _, k := range e.Kids {
		env.valid(k, ck)
	}
}
