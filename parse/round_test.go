package parse_test

import (
	"fmt"
	"math/rand"
	"reflect"
	"strings"
	"testing"

	"metronome/api"
	"metronome/nums"
	"metronome/parse"
	"metronome/show"
	"metronome/tree"
)

// maker makes programs by chance, the same in each run.
type maker struct{ *rand.Rand }

func (m maker) one(s string) string {
	l := strings.Fields(s)
	return l[m.Intn(len(l))]
}

func (m maker) small() string { return m.one("a b c x1 y_ node_ lasts") }

func (m maker) great() string { return m.one("A B Red Green_2 TRUE") }

func (m maker) ctor() string { return m.one("A B Red true false") }

func (m maker) on() api.On { return api.On{Ctor: m.ctor(), Var: m.small()} }

func (m maker) constant() api.Expr {
	switch m.Intn(4) {
	case 0:
		return tree.Int([]int32{0, 1, -1, 7, -70, 1<<31 - 1, -1 << 31}[m.Intn(7)])
	case 1:
		return tree.Ctor(m.great())
	}
	return []api.Expr{tree.Bool(true), tree.Bool(false), tree.Int(3), tree.Int(-3)}[m.Intn(4)]
}

func (m maker) expr(deep int) api.Expr {
	if deep <= 1 {
		return []api.Expr{m.constant(), tree.Name(m.small()), {Kind: api.ELast, Name: m.small()}}[m.Intn(3)]
	}
	kid := func() api.Expr { return m.expr(deep - 1 - m.Intn(deep)) }
	switch m.Intn(9) {
	case 0:
		return api.Expr{Kind: api.EUn, Op: []byte{api.Not, api.Neg}[m.Intn(2)], Kids: []api.Expr{kid()}}
	case 1:
		return api.Expr{Kind: api.EIf, Kids: []api.Expr{kid(), kid(), kid()}}
	case 2:
		return api.Expr{Kind: api.EFby, Kids: []api.Expr{m.constant(), kid()}}
	case 3:
		return api.Expr{Kind: api.EPre, Kids: []api.Expr{kid()}}
	case 4:
		return api.Expr{Kind: api.EArrow, Kids: []api.Expr{kid(), kid()}}
	case 5:
		return tree.When(kid(), m.on())
	case 6:
		e := api.Expr{Kind: api.EMerge, Name: m.small()}
		for range 1 + m.Intn(3) {
			e.Names, e.Kids = append(e.Names, m.ctor()), append(e.Kids, kid())
		}
		return e
	}
	return api.Expr{Kind: api.EBin, Op: operators()[m.Intn(13)], Kids: []api.Expr{kid(), kid()}}
}

func (m maker) vars(most int) []api.Var {
	var l []api.Var
	for range m.Intn(most + 1) {
		v := api.Var{Name: m.small(), T: []api.Type{integer, boolean, {Kind: api.TEnum, Name: m.small()}}[m.Intn(3)]}
		for range m.Intn(3) {
			v.Clock = append(v.Clock, m.on())
		}
		if v.Last = m.Intn(3) == 0; v.Last {
			v.First = m.constant()
		}
		l = append(l, v)
	}
	return l
}

func (m maker) block(deep int) api.Block {
	b := api.Block{Vars: m.vars(2)}
	for range m.Intn(4) {
		b.Eqs = append(b.Eqs, m.equation(deep))
	}
	return b
}

func (m maker) ways() []api.Trans {
	var l []api.Trans
	for range m.Intn(3) {
		l = append(l, api.Trans{E: m.expr(3), To: m.great(), Resume: m.Intn(2) == 0})
	}
	return l
}

func (m maker) equation(deep int) api.Equation {
	kinds := []byte{api.QDef, api.QDef, api.QCall, api.QSwitch, api.QAuto, api.QReset}
	if deep <= 1 {
		kinds = kinds[:3]
	}
	q := api.Equation{Kind: kinds[m.Intn(len(kinds))]}
	switch q.Kind {
	case api.QDef:
		q.Lhs, q.E = []string{m.small()}, m.expr(7)
	case api.QCall:
		q.Name = m.small()
		for range m.Intn(4) {
			q.Lhs = append(q.Lhs, m.small())
		}
		for range m.Intn(3) {
			q.Args = append(q.Args, m.expr(3))
		}
		if q.Has = m.Intn(2) == 0; q.Has {
			q.E = m.expr(3)
		}
	case api.QReset:
		q.E, q.Arms = m.expr(3), []api.Arm{{B: m.block(deep - 1)}}
	case api.QSwitch:
		q.E = m.expr(3)
		for range 1 + m.Intn(3) {
			q.Arms = append(q.Arms, api.Arm{Name: m.ctor(), B: m.block(deep - 1)})
		}
	case api.QAuto:
		for range 1 + m.Intn(3) {
			q.Arms = append(q.Arms, api.Arm{Name: m.great(), B: m.block(deep - 1), Unless: m.ways(), Until: m.ways()})
		}
	}
	return q
}

func (m maker) program() api.Program {
	var p api.Program
	for range m.Intn(3) {
		t := api.Enum{Name: m.small()}
		for range 1 + m.Intn(4) {
			t.Ctors = append(t.Ctors, m.great())
		}
		p.Enums = append(p.Enums, t)
	}
	for range m.Intn(4) {
		p.Nodes = append(p.Nodes, api.Node{Name: m.small(), Ins: m.vars(3), Outs: m.vars(3), B: m.block(4)})
	}
	return p
}

func TestRoundTrip(t *testing.T) { // P6.3
	m := maker{rand.New(rand.NewSource(6))}
	for range 3000 {
		e := m.expr(9)
		if again, err := parse.Expr(show.Expr(e)); err != nil || !tree.SameExpr(e, again) {
			t.Fatalf("%s: %s (%v)", show.Expr(e), show.Expr(again), err)
		}
	}
	for range 600 {
		p := m.program()
		s := show.Program(p)
		if again, err := parse.Program(s); err != nil || !tree.Same(p, again) {
			t.Fatalf("%s:\n%s (%v)", s, show.Program(again), err)
		}
	}
}

// writer writes programs as no printer would: words with gaps of all sorts between, parentheses that are not needed; and tells the tree where each of its parts stands.
type writer struct {
	maker
	b         strings.Builder
	line, col int
	glue      bool // nothing needs to stand ahead of the next word
}

// word writes a word, and tells where.
func (w *writer) word(s string) api.Pos {
	gaps := []string{" ", " ", " ", "\n", "\t ", " -- ) fby $ _\n", "\n\n  ", ""}
	if strings.Contains("(),;:|", s) {
		w.glue = true
	}
	if !w.glue {
		gaps = gaps[:7]
	}
	gap := gaps[w.Intn(len(gaps))]
	w.b.WriteString(gap + s)
	if i := strings.LastIndexByte(gap, '\n'); i >= 0 {
		w.line, w.col, gap = w.line+strings.Count(gap, "\n"), 1, gap[i+1:]
	}
	p := at(w.line, w.col+len(gap))
	w.col = p.Col + len(s)
	w.glue = strings.Contains("(),;:|", s)
	return p
}

func (w *writer) words(l ...string) {
	for _, s := range l {
		w.word(s)
	}
}

func (w *writer) whens(l ...api.On) {
	for _, on := range l {
		w.words("when", on.Ctor, "(", on.Var, ")")
	}
}

// strength is how strongly an expression holds together: 0 where all words of it must be kept apart from others, 6 as an operand, 7 as what can be sampled.
func strength(e *api.Expr) int {
	switch e.Kind {
	case api.EIf, api.EFby, api.EArrow:
		return 0
	case api.EBin:
		return nums.Strength(e.Op)
	case api.EUn, api.EPre:
		return 6
	}
	return 7
}

// expr writes an expression where it has to hold together so strongly, and tells where its first word stands, be it a parenthesis.
func (w *writer) expr(e *api.Expr, least int) api.Pos {
	if strength(e) < least || w.Intn(7) == 0 {
		p := w.word("(")
		w.expr(e, 0)
		w.word(")")
		return p
	}
	var first api.Pos
	switch e.Kind {
	case api.EBin:
		s := nums.Strength(e.Op)
		left := s
		if s == 3 {
			left = 4
		}
		first = w.two(e, left, nums.Word(e.Op), s+1)
	case api.EFby:
		first = w.two(e, 1, "fby", 0)
	case api.EArrow:
		first = w.two(e, 1, "->", 0)
	case api.EWhen:
		first = w.expr(&e.Kids[0], 7)
		w.whens(api.On{Ctor: e.Names[0], Var: e.Name})
		e.At = e.Kids[0].At
		return first
	default:
		first = w.single(e)
	}
	e.At = first
	return first
}

func (w *writer) two(e *api.Expr, left int, op string, right int) api.Pos {
	p := w.expr(&e.Kids[0], left)
	w.word(op)
	w.expr(&e.Kids[1], right)
	return p
}

// single writes an expression that begins with a word of its own.
func (w *writer) single(e *api.Expr) (p api.Pos) {
	switch e.Kind {
	case api.EInt:
		if e.N >= 0 {
			return w.word(fmt.Sprint(e.N))
		}
		p = w.word("-")
		w.word(fmt.Sprint(-int64(e.N)))
	case api.EBool:
		return w.word(fmt.Sprint(e.N == 1))
	case api.ECtor, api.EVar:
		return w.word(e.Name)
	case api.ELast:
		p = w.word("last")
		w.word(e.Name)
	case api.EPre:
		p = w.word("pre")
		w.expr(&e.Kids[0], 6)
	case api.EUn:
		p = w.word(nums.Word(e.Op))
		w.negated(e, &e.Kids[0])
	case api.EIf:
		p = w.word("if")
		for i, word := range []string{"then", "else", ""} {
			w.expr(&e.Kids[i], 0)
			if word != "" {
				w.word(word)
			}
		}
	case api.EMerge:
		p = w.word("merge")
		w.word(e.Name)
		for i := range e.Kids {
			w.words("(", e.Names[i], "->")
			w.expr(&e.Kids[i], 0)
			w.word(")")
		}
	}
	return p
}

// negated writes the operand of an operator: a number ahead of which a - stands needs parentheses, sampled or not.
func (w *writer) negated(e, kid *api.Expr) {
	number := kid
	for number.Kind == api.EWhen {
		number = &number.Kids[0]
	}
	if e.Op == api.Neg && number.Kind == api.EInt && number.N >= 0 {
		w.expr(kid, 8)
		return
	}
	w.expr(kid, 6)
}

func (w *writer) vars(l []api.Var, sep string) {
	for i := range l {
		v := &l[i]
		if i > 0 && sep != "" {
			w.word(sep)
		}
		if v.Last {
			w.word("last")
		}
		v.At = w.word(v.Name)
		w.words(":", show.Type(v.T))
		w.whens(v.Clock...)
		if v.Last {
			w.word("=")
			w.expr(&v.First, 6)
		}
		if sep == "" {
			w.word(";")
		}
	}
}

func (w *writer) body(b *api.Block, begin string) {
	if len(b.Vars) > 0 {
		w.word("var")
		w.vars(b.Vars, "")
	}
	w.word(begin)
	for i := range b.Eqs {
		w.equation(&b.Eqs[i])
		w.word(";")
	}
}

func (w *writer) ways(word string, l []api.Trans) {
	for i := range l {
		l[i].At = w.word(word)
		w.expr(&l[i].E, 0)
		w.words(map[bool]string{true: "continue", false: "then"}[l[i].Resume], l[i].To)
	}
}

func (w *writer) equation(q *api.Equation) {
	switch q.Kind {
	case api.QSwitch:
		q.At = w.word("switch")
		w.expr(&q.E, 0)
	case api.QAuto:
		q.At = w.word("automaton")
	case api.QReset:
		q.At = w.word("reset")
		q.Arms[0].At = q.At
		w.body(&q.Arms[0].B, "do")
		w.word("every")
		w.expr(&q.E, 0)
		return
	default:
		w.definition(q)
		return
	}
	for i := range q.Arms {
		a := &q.Arms[i]
		w.word("|")
		a.At = w.word(a.Name)
		w.body(&a.B, "do")
		w.ways("unless", a.Unless)
		w.ways("until", a.Until)
	}
	w.word("end")
}

func (w *writer) definition(q *api.Equation) {
	if len(q.Lhs) == 1 && w.Intn(3) > 0 {
		q.At = w.word(q.Lhs[0])
	} else {
		q.At = w.word("(")
		w.words(strings.Fields(strings.Join(q.Lhs, " , "))...)
		w.word(")")
	}
	w.word("=")
	if q.Kind == api.QDef {
		w.expr(&q.E, 0)
		return
	}
	w.words(q.Name, "(")
	for i := range q.Args {
		if i > 0 {
			w.word(",")
		}
		w.expr(&q.Args[i], 0)
	}
	w.word(")")
	if q.Has {
		w.word("every")
		w.expr(&q.E, 0)
	}
}

func (w *writer) program(p *api.Program) {
	types, nodes := p.Enums, p.Nodes
	for len(types)+len(nodes) > 0 {
		if len(nodes) == 0 || len(types) > 0 && w.Intn(2) == 0 {
			w.word("type")
			types[0].At = w.word(types[0].Name)
			w.word("=")
			w.words(strings.Fields(strings.Join(types[0].Ctors, " | "))...)
			w.word(";")
			types = types[1:]
			continue
		}
		n := &nodes[0]
		w.word("node")
		n.At = w.word(n.Name)
		w.word("(")
		w.vars(n.Ins, ";")
		w.words(")", "returns", "(")
		w.vars(n.Outs, ";")
		w.word(")")
		w.body(&n.B, "let")
		w.word("tel")
		nodes = nodes[1:]
	}
}

func TestPlacesOfAll(t *testing.T) { // P6.1: every place and every field
	w := &writer{maker: maker{rand.New(rand.NewSource(7))}}
	for range 3000 {
		e := w.maker.expr(9)
		w.b.Reset()
		w.line, w.col = 1, 1
		w.expr(&e, 0)
		if got, err := parse.Expr(w.b.String()); err != nil || !reflect.DeepEqual(got, e) {
			t.Fatalf("%s:\n%s (%v), not\n%s", w.b.String(), told(got), err, told(e))
		}
	}
	for range 600 {
		p := w.maker.program()
		w.b.Reset()
		w.line, w.col = 1, 1
		w.program(&p)
		if got, err := parse.Program(w.b.String()); err != nil || !reflect.DeepEqual(got, p) {
			t.Fatalf("%s:\n%+v (%v), not\n%+v", w.b.String(), got, err, p)
		}
	}
}
