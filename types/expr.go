package types

import (
	"slices"

	"metronome/api"
	"metronome/faults"
	"metronome/nums"
	"metronome/walk"
)

var (
	boolean = api.Type{Kind: api.TBool}
	number  = api.Type{Kind: api.TInt}
)

// types are those that a program declares.
type types struct {
	owners map[string]api.Type // of each constructor, its type
	counts map[string]int      // of each type, how many constructors it has
}

func declared(l []api.Enum) types {
	s := types{owners: map[string]api.Type{}, counts: map[string]int{}}
	for _, t := range l {
		s.counts[t.Name] = len(t.Ctors)
		for _, ctor := range t.Ctors {
			s.owners[ctor] = api.Type{Kind: api.TEnum, Name: t.Name}
		}
	}
	return s
}

// has: does a type have that constructor?
func (s types) has(t api.Type, ctor string) bool {
	if t.Kind == api.TBool {
		return ctor == "false" || ctor == "true"
	}
	owner, ok := s.owners[ctor]
	return ok && owner == t
}

// count: how many constructors does a type have?
func (s types) count(t api.Type) int {
	switch t.Kind {
	case api.TBool:
		return 2
	case api.TEnum:
		return s.counts[t.Name]
	}
	return 0
}

// each: are these the constructors of a type, each once?
func (s types) each(t api.Type, ctors []string) bool {
	seen := map[string]struct{}{}
	for _, ctor := range ctors {
		if !s.has(t, ctor) {
			return false
		}
		seen[ctor] = struct{}{}
	}
	return len(ctors) == len(seen) && len(seen) == s.count(t)
}

// scope is what the names in an expression stand for.
type scope struct {
	types
	vars map[string]api.Type
}

func (s *scope) declare(l []api.Var) {
	for _, v := range l {
		s.vars[v.Name] = v.T
	}
}

// value is what is known of an expression: its type, and whether it has a state.
type value struct {
	t     api.Type
	state bool
}

// want checks an expression that has to have a type; at is where it stands that it has another one.
func (s *scope) want(e *api.Expr, t api.Type, at api.Pos) error {
	v, err := s.expr(e)
	if err == nil && v.t != t {
		err = faults.New(api.Typed, at)
	}
	return err
}

func (s *scope) expr(e *api.Expr) (value, error) {
	return walk.Fold(e, func(e *api.Expr, kids []value) (value, error) {
		t, ok := s.join(e, kids)
		if !ok {
			return value{}, faults.New(api.Typed, e.At)
		}
		return value{t: t, state: remembers(e.Kind) || slices.ContainsFunc(kids, stateful)}, nil
	})
}

func remembers(kind byte) bool {
	return kind == api.EFby || kind == api.EPre || kind == api.EArrow
}

func stateful(v value) bool { return v.state }

// join: the type of an expression, whose kids are right; false: it has none.
func (s *scope) join(e *api.Expr, kids []value) (t api.Type, ok bool) {
	switch e.Kind {
	case api.EInt:
		return number, true
	case api.EBool:
		return boolean, true
	case api.ECtor:
		t, ok = s.owners[e.Name]
	case api.EVar, api.ELast:
		t, ok = s.vars[e.Name]
	case api.EUn, api.EBin:
		kind, result := nums.Types(e.Op)
		t, ok = alike(kids)
		return api.Type{Kind: result}, ok && (kind == 0 || kind == t.Kind)
	case api.EIf:
		if len(kids) > 0 && kids[0].t == boolean {
			return alike(kids[1:])
		}
	case api.EFby, api.EPre, api.EArrow:
		return alike(kids)
	case api.EWhen:
		if s.samples(e, kids) {
			return alike(kids)
		}
	case api.EMerge:
		if v, ok := s.vars[e.Name]; ok && s.each(v, e.Names) {
			return alike(kids)
		}
	}
	return t, ok
}

// samples: can an EWhen sample its kid?
func (s *scope) samples(e *api.Expr, kids []value) bool {
	v, ok := s.vars[e.Name]
	return ok && !slices.ContainsFunc(kids, stateful) &&
		!slices.ContainsFunc(e.Names, func(ctor string) bool { return !s.has(v, ctor) })
}

// alike: the type that all kids have.
func alike(kids []value) (api.Type, bool) {
	if len(kids) == 0 {
		return api.Type{}, false
	}
	t := kids[0].t
	return t, !slices.ContainsFunc(kids, func(v value) bool { return v.t != t })
}
