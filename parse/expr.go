package parse

import (
	"metronome/api"
	"metronome/lex"
	"metronome/nums"
	"metronome/tree"
)

func (p *parser) expr() api.Expr {
	p.enter()
	at := p.at()
	var e api.Expr
	if p.is("if") {
		e = p.condition()
	} else {
		e = p.stream()
	}
	p.leave()
	// Chains of operators are not open one in another, but make a tree as deep.
	if tree.Depth(e) > api.MaxDepth {
		p.fail(api.Limit, at)
	}
	return e
}

func (p *parser) condition() api.Expr {
	at := p.next().At
	c := p.expr()
	p.want("then")
	a := p.expr()
	p.want("else")
	return api.Expr{Kind: api.EIf, Kids: []api.Expr{c, a, p.expr()}, At: at}
}

// stream is an expression without if: the operators that bind most weakly stand between its sides.
func (p *parser) stream() api.Expr {
	at := p.at()
	left := p.binary(1)
	switch {
	case p.accept("->"):
		return api.Expr{Kind: api.EArrow, Kids: []api.Expr{left, p.expr()}, At: at}
	case p.is("fby"):
		if !tree.Const(left) {
			p.unexpected()
		}
		p.next()
		return api.Expr{Kind: api.EFby, Kids: []api.Expr{left, p.expr()}, At: at}
	}
	return left
}

// binary is as much as is joined by operators that bind at least so strongly.
func (p *parser) binary(least int) api.Expr {
	at := p.at()
	left := p.unary()
	for {
		op := p.operator()
		strength := nums.Strength(op)
		if strength < least {
			return left
		}
		p.next()
		left = api.Expr{Kind: api.EBin, Op: op, Kids: []api.Expr{left, p.binary(strength + 1)}, At: at}
		if compares(op) && compares(p.operator()) {
			p.unexpected()
		}
	}
}

// operator is the binary operator that the word ahead is; 0, if it is none.
func (p *parser) operator() byte {
	for op := api.Add; op <= api.Ge; op++ {
		if p.is(nums.Word(op)) {
			return op
		}
	}
	return 0
}

func compares(op byte) bool {
	return nums.Strength(op) == nums.Strength(api.Eq)
}

func (p *parser) unary() api.Expr {
	at := p.at()
	switch {
	case p.accept("not"):
		return api.Expr{Kind: api.EUn, Op: api.Not, Kids: p.operand(), At: at}
	case p.accept("pre"):
		return api.Expr{Kind: api.EPre, Kids: p.operand(), At: at}
	case p.accept("-"):
		if p.has(lex.Number) {
			// The least number is its own negative: its - makes it right.
			return p.sampled(placed(tree.Int(-p.next().N), at))
		}
		return api.Expr{Kind: api.EUn, Op: api.Neg, Kids: p.operand(), At: at}
	}
	return p.sampled(p.atom())
}

// operand is what stands behind a unary operator, as the only kid.
func (p *parser) operand() []api.Expr {
	p.enter()
	defer p.leave()
	return []api.Expr{p.unary()}
}

// sampled is an expression with all the samplings that stand behind it.
func (p *parser) sampled(e api.Expr) api.Expr {
	for p.accept("when") {
		e = placed(tree.When(e, p.on()), e.At)
	}
	return e
}

func (p *parser) atom() api.Expr {
	at := p.at()
	switch {
	case p.has(lex.Number):
		return p.number()
	case p.has(lex.Great):
		return placed(tree.Ctor(p.next().Text), at)
	case p.has(lex.Small):
		return placed(tree.Name(p.next().Text), at)
	case p.is("true"), p.is("false"):
		return placed(tree.Bool(p.next().Text == "true"), at)
	case p.accept("last"):
		return api.Expr{Kind: api.ELast, Name: p.small(), At: at}
	case p.accept("("):
		e := p.expr()
		p.want(")")
		return e
	}
	return p.merge()
}

// number is a number without a - of its own: the greatest that lex knows needs one.
func (p *parser) number() api.Expr {
	if p.words[0].N < 0 {
		p.beyond()
	}
	t := p.next()
	return placed(tree.Int(t.N), t.At)
}

// part is a part of a merge.
type part struct {
	ctor string
	e    api.Expr
}

func (p *parser) merge() api.Expr {
	at := p.at()
	p.want("merge")
	e := api.Expr{Kind: api.EMerge, Name: p.small(), At: at}
	for _, x := range few(p, "(", (*parser).part) {
		e.Names = append(e.Names, x.ctor)
		e.Kids = append(e.Kids, x.e)
	}
	return e
}

// part is a part of a merge, behind its (.
func (p *parser) part() part {
	c := p.ctor()
	p.want("->")
	e := p.expr()
	p.want(")")
	return part{c.Text, e}
}

func placed(e api.Expr, at api.Pos) api.Expr {
	e.At = at
	return e
}
