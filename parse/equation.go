package parse

import (
	"metronome/api"
	"metronome/lex"
)

// equations are all that stand there: behind them stands a word that begins none.
func (p *parser) equations() []api.Equation {
	var l []api.Equation
	for p.has(lex.Small) || p.is("(") || p.is("switch") || p.is("automaton") || p.is("reset") {
		l = append(l, p.equation())
		p.want(";")
	}
	return l
}

func (p *parser) equation() api.Equation {
	at := p.at()
	switch {
	case p.accept("switch"):
		return p.choice(at)
	case p.accept("automaton"):
		return p.automaton(at)
	case p.accept("reset"):
		return p.reset(at)
	}
	lhs := p.lhs()
	p.want("=")
	if p.has(lex.Small) && p.followed("(") {
		return p.call(lhs, at)
	}
	if len(lhs) != 1 {
		p.unexpected()
	}
	return api.Equation{Kind: api.QDef, Lhs: lhs, E: p.expr(), At: at}
}

// lhs is the left side of an equation.
func (p *parser) lhs() []string {
	if p.is("(") {
		return listed(p, ",", (*parser).small)
	}
	return []string{p.small()}
}

// call is an equation that calls a node, behind its =.
func (p *parser) call(lhs []string, at api.Pos) api.Equation {
	q := api.Equation{Kind: api.QCall, Lhs: lhs, Name: p.small(), At: at}
	q.Args = listed(p, ",", (*parser).expr)
	if p.accept("every") {
		q.Has, q.E = true, p.expr()
	}
	return q
}

// choice is a switch, behind its first word.
func (p *parser) choice(at api.Pos) api.Equation {
	q := api.Equation{Kind: api.QSwitch, E: p.expr(), At: at}
	q.Arms = few(p, "|", (*parser).arm)
	p.want("end")
	return q
}

// automaton is an automaton, behind its first word.
func (p *parser) automaton(at api.Pos) api.Equation {
	q := api.Equation{Kind: api.QAuto, Arms: few(p, "|", (*parser).state), At: at}
	p.want("end")
	return q
}

// reset is a reset, behind its first word.
func (p *parser) reset(at api.Pos) api.Equation {
	q := api.Equation{Kind: api.QReset, Arms: []api.Arm{{B: p.block(), At: at}}, At: at}
	p.want("every")
	q.E = p.expr()
	return q
}

// arm is an arm of a switch, behind its |.
func (p *parser) arm() api.Arm {
	c := p.ctor()
	return api.Arm{Name: c.Text, B: p.block(), At: c.At}
}

// state is a state of an automaton, behind its |.
func (p *parser) state() api.Arm {
	c := p.take(lex.Great)
	a := api.Arm{Name: c.Text, B: p.block(), At: c.At}
	a.Unless = p.ways("unless")
	a.Until = p.ways("until")
	return a
}

// ways are the ways out of a state that begin with that word.
func (p *parser) ways(word string) []api.Trans {
	var l []api.Trans
	for p.is(word) {
		t := api.Trans{At: p.next().At}
		t.E = p.expr()
		t.Resume = p.accept("continue")
		if !t.Resume {
			p.want("then")
		}
		t.To = p.take(lex.Great).Text
		l = append(l, t)
	}
	return l
}
