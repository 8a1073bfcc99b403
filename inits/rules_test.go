package inits_test

import (
	"slices"

	"metronome/api"
	"metronome/faults"
	"metronome/tree"
)

// The rules of the chapter, word for word: recursive, and without regard to time. They stop by a panic at the first error.

func failIf(bad bool, at api.Pos) {
	if bad {
		panic(faults.New(api.Init, at))
	}
}

// state is what is known where the rules are applied: the variables of enclosing blocks, and of this one, that are late.
type state []string

func (s state) late(e api.Expr) bool {
	switch e.Kind {
	case api.EPre:
		return true
	case api.EVar:
		return slices.Contains(s, e.Name)
	case api.EFby, api.EArrow:
		return s.late(e.Kids[0])
	}
	return slices.ContainsFunc(e.Kids, s.late)
}

// in is s with the late variables of a block: the smallest set is found from below.
func (s state) in(b api.Block) state {
	s = slices.Clone(s)
	for again := true; again; {
		again = false
		for _, q := range b.Eqs {
			if q.Kind == api.QDef && tree.Find(b.Vars, q.Lhs[0]) >= 0 && !slices.Contains(s, q.Lhs[0]) && s.late(q.E) {
				s = append(s, q.Lhs[0])
				again = true
			}
		}
	}
	return s
}

func lateOf(b api.Block) (l []string) {
	late := state(nil).in(b)
	for _, v := range b.Vars {
		if slices.Contains(late, v.Name) {
			l = append(l, v.Name)
		}
	}
	return l
}

func check(p api.Program) (err error) {
	defer func() {
		if r := recover(); r != nil {
			err = r.(error)
		}
	}()
	for _, n := range p.Nodes {
		state(nil).block(n.B, nil)
	}
	return nil
}

func (s state) block(b api.Block, until []api.Trans) {
	s = s.in(b)
	for _, v := range b.Vars {
		failIf(v.Last && slices.Contains(s, v.Name), v.At)
	}
	for _, q := range b.Eqs {
		s.equation(q, b)
	}
	s.ways(until)
}

func (s state) ways(l []api.Trans) {
	for _, w := range l {
		s.defined(w.E)
	}
}

func (s state) equation(q api.Equation, b api.Block) {
	switch q.Kind {
	case api.QDef:
		s.interior(q.E)
		failIf(s.late(q.E) && tree.Find(b.Vars, q.Lhs[0]) < 0, q.At)
	case api.QCall:
		for _, a := range q.Args {
			s.defined(a)
		}
		if q.Has {
			s.defined(q.E)
		}
	case api.QReset:
		s.block(q.Arms[0].B, nil)
		s.defined(q.E)
	case api.QSwitch:
		s.defined(q.E)
		for _, a := range q.Arms {
			s.block(a.B, nil)
		}
	case api.QAuto:
		for _, a := range q.Arms {
			s.ways(a.Unless)
			s.block(a.B, a.Until)
		}
	}
}

func (s state) interior(e api.Expr) {
	for _, k := range e.Kids {
		s.interior(k)
	}
	switch e.Kind {
	case api.EFby:
		failIf(s.late(e.Kids[1]), e.At)
	case api.EPre, api.EArrow:
		failIf(s.late(e.Kids[0]), e.At)
	case api.EWhen, api.EMerge:
		failIf(slices.Contains(s, e.Name), e.At)
	}
}

func (s state) defined(e api.Expr) {
	s.interior(e)
	failIf(s.late(e), e.At)
}
