package clocks

import (
	"metronome/api"
	"metronome/faults"
)

// placed is an expression, and the clock that it has to be valid on.
type placed struct {
	e  *api.Expr
	on clock
}

// expr checks an expression: what it contains, from left to right, kids last.
func (c *checker) expr(e *api.Expr, on clock) error {
	todo := append(make([]placed, 0, 16), placed{e, on}) // the next one at its end
	for len(todo) > 0 {
		top := todo[len(todo)-1]
		todo = todo[:len(todo)-1]
		ok := false
		if todo, ok = c.open(todo, top); !ok {
			return faults.New(api.Clock, top.e.At)
		}
	}
	return nil
}

// open puts the kids of an expression on a list, the first one at its end; false: the expression itself is not valid.
func (c *checker) open(todo []placed, p placed) ([]placed, bool) {
	e, on := p.e, p.on
	switch e.Kind {
	case api.EInt, api.EBool, api.ECtor:
		return todo, true
	case api.EVar, api.ELast:
		return todo, c.has(e.Name, on)
	case api.EWhen:
		s, ok := c.split(on)
		if !ok || !sampledBy(e, s.on) || !c.has(e.Name, s.outer) {
			return nil, false
		}
		on = s.outer
	case api.EMerge:
		if len(e.Names) < len(e.Kids) || !c.has(e.Name, on) {
			return nil, false
		}
	}
	for i := len(e.Kids) - 1; i >= 0; i-- {
		kid := placed{&e.Kids[i], on}
		if e.Kind == api.EMerge {
			kid.on = c.under(on, api.On{Ctor: e.Names[i], Var: e.Name})
		}
		todo = append(todo, kid)
	}
	return todo, true
}

// sampledBy: does an EWhen sample by that?
func sampledBy(e *api.Expr, on api.On) bool {
	return e.Name == on.Var && len(e.Names) > 0 && e.Names[0] == on.Ctor
}
