package tree

import (
	"slices"

	"metronome/api"
)

// SameExpr: are two expressions one, wherever they stand?
func SameExpr(a, b api.Expr) bool {
	return sameExprs([]api.Expr{a}, []api.Expr{b})
}

// SameVar: are two variables one?
func SameVar(a, b api.Var) bool {
	return a.Name == b.Name && a.T == b.T && slices.Equal(a.Clock, b.Clock) &&
		a.Last == b.Last && SameExpr(a.First, b.First)
}

// SameEq: are two equations one?
func SameEq(a, b api.Equation) bool {
	return SameBlock(api.Block{Eqs: []api.Equation{a}}, api.Block{Eqs: []api.Equation{b}})
}

// SameBlock: are two blocks one?
func SameBlock(a, b api.Block) bool {
	// What is left to compare is a slice: blocks can be deeper than calls can be nested.
	todo := []pair[api.Block]{{a, b}}
	for len(todo) > 0 {
		p := todo[len(todo)-1]
		todo = todo[:len(todo)-1]
		if !slices.EqualFunc(p.a.Vars, p.b.Vars, SameVar) || !slices.EqualFunc(p.a.Eqs, p.b.Eqs, sameBut) {
			return false
		}
		for i, q := range p.a.Eqs {
			for j, arm := range q.Arms {
				todo = append(todo, pair[api.Block]{arm.B, p.b.Eqs[i].Arms[j].B})
			}
		}
	}
	return true
}

// SameNode: are two nodes one?
func SameNode(a, b api.Node) bool {
	return a.Name == b.Name && slices.EqualFunc(a.Ins, b.Ins, SameVar) &&
		slices.EqualFunc(a.Outs, b.Outs, SameVar) && SameBlock(a.B, b.B)
}

// Same: are two programs one, wherever their parts stand?
func Same(a, b api.Program) bool {
	return slices.EqualFunc(a.Enums, b.Enums, sameEnum) && slices.EqualFunc(a.Nodes, b.Nodes, SameNode)
}

// pair is two things that have to be one.
type pair[T any] struct{ a, b T }

// sameExprs: are the expressions of two lists one by one the same? What is left to compare is a slice, as in SameBlock.
func sameExprs(a, b []api.Expr) bool {
	todo := []pair[[]api.Expr]{{a, b}}
	for len(todo) > 0 {
		p := todo[len(todo)-1]
		todo = todo[:len(todo)-1]
		if len(p.a) != len(p.b) {
			return false
		}
		for i := range p.a {
			x, y := &p.a[i], &p.b[i]
			if !sameButKids(x, y) {
				return false
			}
			if len(x.Kids) > 0 || len(y.Kids) > 0 {
				todo = append(todo, pair[[]api.Expr]{x.Kids, y.Kids})
			}
		}
	}
	return true
}

// sameButKids: are two expressions one, whatever their kids are?
func sameButKids(a, b *api.Expr) bool {
	return a.Kind == b.Kind && a.Op == b.Op && a.N == b.N && a.Name == b.Name && slices.Equal(a.Names, b.Names)
}

// sameBut: are two equations one, whatever the blocks of their arms are?
func sameBut(a, b api.Equation) bool {
	return a.Kind == b.Kind && slices.Equal(a.Lhs, b.Lhs) && a.Name == b.Name &&
		sameExprs(a.Args, b.Args) && a.Has == b.Has && SameExpr(a.E, b.E) &&
		slices.EqualFunc(a.Arms, b.Arms, sameButBlock)
}

// sameButBlock: are two arms one, whatever their blocks are?
func sameButBlock(a, b api.Arm) bool {
	return a.Name == b.Name && slices.EqualFunc(a.Unless, b.Unless, sameTrans) &&
		slices.EqualFunc(a.Until, b.Until, sameTrans)
}

func sameTrans(a, b api.Trans) bool {
	return a.To == b.To && a.Resume == b.Resume && SameExpr(a.E, b.E)
}

func sameEnum(a, b api.Enum) bool {
	return a.Name == b.Name && slices.Equal(a.Ctors, b.Ctors)
}
