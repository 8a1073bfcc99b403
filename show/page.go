package show

import (
	"strings"

	"metronome/api"
)

// page is a text of lines.
type page struct{ b strings.Builder }

// line writes a line, so many blanks ahead of it.
func (p *page) line(in int, parts ...string) {
	for range in {
		p.b.WriteByte(' ')
	}
	for _, s := range parts {
		p.b.WriteString(s)
	}
	p.b.WriteByte('\n')
}

func (p *page) node(n *api.Node) {
	p.line(0, "node ", n.Name, "(", vars(n.Ins), ") returns (", vars(n.Outs), ")")
	p.locals(n.B.Vars, 0)
	p.line(0, "let")
	p.equations(n.B.Eqs, 2)
	p.line(0, "tel")
}

// locals writes the line of the variables of a block, if it has some.
func (p *page) locals(l []api.Var, in int) {
	if len(l) > 0 {
		p.line(in, "var ", vars(l), ";")
	}
}

func (p *page) equations(l []api.Equation, in int) {
	for i := range l {
		p.equation(&l[i], in)
	}
}

// equation writes an equation, and calls itself for those of its blocks: each level stands further right, so that a text of 2^31 - 1 bytes has too few levels to exhaust the stack.
func (p *page) equation(q *api.Equation, in int) {
	switch q.Kind {
	case api.QDef:
		p.line(in, left(q.Lhs), " = ", Expr(q.E), ";")
	case api.QCall:
		p.line(in, left(q.Lhs), " = ", q.Name, "(", joined(q.Args, ", ", writeExpr), ")", again(q), ";")
	case api.QSwitch:
		p.line(in, "switch ", Expr(q.E))
		p.arms(q, in)
	case api.QAuto:
		p.line(in, "automaton")
		p.arms(q, in)
	case api.QReset:
		p.line(in, "reset")
		for i := range q.Arms {
			p.block(&q.Arms[i].B, in+2)
		}
		p.line(in, "every ", Expr(q.E), ";")
	}
}

// arms writes the arms of a switch, or the states of an automaton, and their end.
func (p *page) arms(q *api.Equation, in int) {
	for i := range q.Arms {
		a := &q.Arms[i]
		p.line(in, "| ", a.Name)
		p.block(&a.B, in+2)
		if q.Kind == api.QAuto {
			p.ways(a.Unless, "unless ", in+2)
			p.ways(a.Until, "until ", in+2)
		}
	}
	p.line(in, "end;")
}

// ways writes the ways out of a state, each behind the word that it begins with.
func (p *page) ways(l []api.Trans, word string, in int) {
	for i := range l {
		to := " then "
		if l[i].Resume {
			to = " continue "
		}
		p.line(in, word, Expr(l[i].E), to, l[i].To)
	}
}

func (p *page) block(b *api.Block, in int) {
	p.locals(b.Vars, in)
	p.line(in, "do")
	p.equations(b.Eqs, in+2)
}

// left is the left side of an equation.
func left(l []string) string {
	if len(l) == 1 {
		return l[0]
	}
	return "(" + strings.Join(l, ", ") + ")"
}

// again is when a call begins anew.
func again(q *api.Equation) string {
	if !q.Has {
		return ""
	}
	return " every " + Expr(q.E)
}

// joined are the texts of a list, with sep between.
func joined[T any](l []T, sep string, write func(*strings.Builder, *T)) string {
	var b strings.Builder
	for i := range l {
		if i > 0 {
			b.WriteString(sep)
		}
		write(&b, &l[i])
	}
	return b.String()
}

// vars are variables as they stand in one line.
func vars(l []api.Var) string {
	return joined(l, "; ", writeVar)
}

func writeVar(b *strings.Builder, v *api.Var) {
	if v.Last {
		b.WriteString("last ")
	}
	b.WriteString(v.Name)
	b.WriteString(" : ")
	b.WriteString(Type(v.T))
	for _, on := range v.Clock {
		writeWhen(b, on)
	}
	if v.Last {
		b.WriteString(" = ")
		writeExpr(b, &v.First)
	}
}
