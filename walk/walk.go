// Package walk goes through syntax trees. What it has begun and not ended stands in slices: trees can be deeper than calls can be nested.
package walk

import "metronome/api"

// open is an expression that has been entered and not yet left, and those of its kids that are still ahead.
type open struct {
	e    *api.Expr
	kids []api.Expr
}

// Expr goes through an expression: enter is called for it and for what it contains, each ahead of its kids, and answers those of the kids to go through; leave is called behind them. When leave answers false, the walk ends.
func Expr(e *api.Expr, enter func(*api.Expr) []api.Expr, leave func(*api.Expr) bool) {
	stack := append(make([]open, 0, 16), open{e, enter(e)})
	for len(stack) > 0 {
		top := &stack[len(stack)-1]
		if len(top.kids) > 0 {
			kid := &top.kids[0]
			top.kids = top.kids[1:]
			stack = append(stack, open{kid, enter(kid)})
			continue
		}
		if !leave(top.e) {
			return
		}
		stack = stack[:len(stack)-1]
	}
}

// Kids are all kids of an expression.
func Kids(e *api.Expr) []api.Expr { return e.Kids }

// Up visits what an expression contains, from left to right, each behind its kids and the expression itself at last, up to the first error.
func Up(e *api.Expr, visit func(*api.Expr) error) (err error) {
	Expr(e, Kids, func(e *api.Expr) bool {
		err = visit(e)
		return err == nil
	})
	return err
}

// Fold works something out of an expression: join is called for what it contains, each behind its kids, with what has come out of these, up to the first error. It does not keep the list of these.
func Fold[T any](e *api.Expr, join func(e *api.Expr, kids []T) (T, error)) (T, error) {
	var got []T // of the expressions that have been left, and whose parents have not
	err := Up(e, func(e *api.Expr) error {
		kids := got[len(got)-len(e.Kids):]
		x, err := join(e, kids)
		got = append(got[:len(got)-len(kids)], x)
		return err
	})
	if err != nil {
		var none T
		return none, err
	}
	return got[0], nil
}
