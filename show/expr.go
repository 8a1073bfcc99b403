package show

import (
	"strconv"
	"strings"

	"metronome/api"
	"metronome/nums"
)

// begun is an expression that is being written: how many of its kids are begun, and whether it stands in parentheses.
type begun struct {
	e      *api.Expr
	kids   int
	closed bool
}

// writeExpr writes an expression. Its stack is a slice: a tree can be deeper than calls can be nested.
func writeExpr(b *strings.Builder, e *api.Expr) {
	stack := append(make([]begun, 0, 16), begun{e: e})
	for len(stack) > 0 {
		top := &stack[len(stack)-1]
		writePiece(b, top.e, top.kids)
		if top.kids < len(kids(top.e)) {
			kid := &top.e.Kids[top.kids]
			top.kids++
			closed := parenthesized(top.e, kid)
			if closed {
				b.WriteByte('(')
			}
			stack = append(stack, begun{e: kid, closed: closed})
			continue
		}
		if top.closed {
			b.WriteByte(')')
		}
		stack = stack[:len(stack)-1]
	}
}

// kids are those of an expression of a kind that has some.
func kids(e *api.Expr) []api.Expr {
	switch e.Kind {
	case api.EInt, api.EBool, api.ECtor, api.EVar, api.ELast:
		return nil
	}
	return e.Kids
}

// writePiece writes what stands ahead of the kid i of an expression; with i the number of its kids, what stands behind them all.
func writePiece(b *strings.Builder, e *api.Expr, i int) {
	switch e.Kind {
	case api.EWhen:
		if i == 1 {
			writeWhen(b, on(e))
		}
	case api.EMerge:
		writeMergePiece(b, e, i)
	case api.EUn, api.EPre, api.EIf:
		b.WriteString(before(e, i))
	case api.EBin, api.EFby, api.EArrow:
		if i == 1 {
			b.WriteString(between(e))
		}
	default:
		b.WriteString(leaf(e))
	}
}

// leaf is the text of an expression without kids.
func leaf(e *api.Expr) string {
	switch e.Kind {
	case api.EInt:
		return strconv.Itoa(int(e.N))
	case api.EBool:
		return strconv.FormatBool(e.N != 0)
	case api.ELast:
		return "last " + e.Name
	}
	return e.Name
}

// before is what stands ahead of the kid i of an expression that begins with a word.
func before(e *api.Expr, i int) string {
	switch {
	case e.Kind == api.EIf && i == 1:
		return " then "
	case e.Kind == api.EIf && i == 2:
		return " else "
	case i > 0:
		return ""
	case e.Kind == api.EIf:
		return "if "
	case e.Kind == api.EPre:
		return "pre "
	}
	return nums.Word(e.Op) + " "
}

// between is what stands between the two kids of an expression.
func between(e *api.Expr) string {
	switch e.Kind {
	case api.EFby:
		return " fby "
	case api.EArrow:
		return " -> "
	}
	return " " + nums.Word(e.Op) + " "
}

func writeMergePiece(b *strings.Builder, e *api.Expr, i int) {
	if i == 0 {
		b.WriteString("(merge ")
		b.WriteString(e.Name)
	} else {
		b.WriteByte(')')
	}
	if i == len(e.Kids) {
		b.WriteByte(')')
		return
	}
	b.WriteString(" (")
	b.WriteString(ctor(e, i))
	b.WriteString(" -> ")
}

// writeWhen writes a sampling behind what is sampled.
func writeWhen(b *strings.Builder, on api.On) {
	for _, s := range []string{" when ", on.Ctor, "(", on.Var, ")"} {
		b.WriteString(s)
	}
}

// on is the sampling of an EWhen.
func on(e *api.Expr) api.On {
	return api.On{Ctor: ctor(e, 0), Var: e.Name}
}

// ctor is the constructor i of an expression; "", if it has too few.
func ctor(e *api.Expr, i int) string {
	if i >= len(e.Names) {
		return ""
	}
	return e.Names[i]
}

// parenthesized: does a kid of an expression stand in parentheses of its own?
func parenthesized(e, kid *api.Expr) bool {
	if e.Kind == api.EIf || e.Kind == api.EMerge {
		return false
	}
	switch kid.Kind {
	case api.EBool, api.ECtor, api.EVar, api.EMerge:
		return false
	case api.EInt:
		// A - ahead of a number would be read as a part of the number.
		return kid.N < 0 || e.Kind == api.EUn && e.Op == api.Neg
	}
	return true
}
