package inits

import (
	"slices"

	"metronome/api"
	"metronome/faults"
	"metronome/walk"
)

// lates are late variables: of each, how deeply the block that declares it is nested, from 1 on.
type lates map[string]int

func (l lates) has(name string) bool { return l[name] > 0 }

// add adds those of a block. What is there already is of the blocks around it.
func (l lates) add(b *api.Block, level int) {
	own := map[string]int{}
	for i, v := range b.Vars {
		own[v.Name] = i
	}
	var found []int
	users := make([][]int, len(b.Vars)) // of each variable, those that are late if it is
	for i := range b.Eqs {
		q := &b.Eqs[i]
		if q.Kind != api.QDef || len(q.Lhs) == 0 {
			continue
		}
		v, ok := own[q.Lhs[0]]
		if ok && lateBy(&q.E, func(name string) bool {
			if read, ok := own[name]; ok {
				users[read] = append(users[read], v)
			}
			return l.has(name)
		}) {
			found = append(found, v)
		}
	}
	for len(found) > 0 {
		v := found[len(found)-1]
		found = found[:len(found)-1]
		if name := b.Vars[v].Name; !l.has(name) {
			l[name] = level
			found = append(found, users[v]...)
		}
	}
}

// lateBy: is an expression late, if those variables are that late answers for? Late is asked for each that the expression would be late by, up to the first that is.
func lateBy(e *api.Expr, late func(string) bool) (found bool) {
	walk.Expr(e, func(e *api.Expr) []api.Expr {
		switch e.Kind {
		case api.EVar:
			found = late(e.Name)
			return nil
		case api.EPre:
			found = true
			return nil
		case api.EFby, api.EArrow:
			return e.Kids[:min(1, len(e.Kids))]
		}
		return e.Kids
	}, func(*api.Expr) bool { return !found })
	return found
}

// interior checks what an expression contains, each behind its kids, and itself at last; and it answers whether the expression is late.
func interior(e *api.Expr, late func(string) bool) (bool, error) {
	return walk.Fold(e, func(e *api.Expr, kids []bool) (bool, error) {
		first, bad := false, false
		switch e.Kind {
		case api.EVar:
			first = late(e.Name)
		case api.EPre:
			first, bad = true, slices.Contains(kids, true)
		case api.EFby:
			first, bad = at(kids, 0), at(kids, 1)
		case api.EArrow:
			first, bad = at(kids, 0), at(kids, 0)
		case api.EWhen, api.EMerge:
			first, bad = slices.Contains(kids, true), late(e.Name)
		default:
			first = slices.Contains(kids, true)
		}
		if bad {
			return false, faults.New(api.Init, e.At)
		}
		return first, nil
	})
}

// at: is the kid in that place late? One that isn't there is not.
func at(kids []bool, i int) bool { return i < len(kids) && kids[i] }
