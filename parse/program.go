package parse

import (
	"metronome/api"
	"metronome/lex"
	"metronome/tree"
)

func (p *parser) program() api.Program {
	var r api.Program
	for {
		switch {
		case p.accept("type"):
			r.Enums = append(r.Enums, p.enum())
		case p.is("node"):
			if len(r.Nodes) == api.MaxNodes {
				p.beyond()
			}
			p.next()
			r.Nodes = append(r.Nodes, p.node())
		default:
			return r
		}
	}
}

// enum is a type, behind its first word.
func (p *parser) enum() api.Enum {
	name := p.take(lex.Small)
	p.want("=")
	var ctors []string
	for len(ctors) == 0 || p.accept("|") {
		if len(ctors) == api.MaxCtors {
			p.beyond()
		}
		ctors = append(ctors, p.take(lex.Great).Text)
	}
	p.want(";")
	return api.Enum{Name: name.Text, Ctors: ctors, At: name.At}
}

// node is a node, behind its first word.
func (p *parser) node() api.Node {
	name := p.take(lex.Small)
	n := api.Node{Name: name.Text, At: name.At}
	n.Ins = listed(p, ";", (*parser).variable)
	p.want("returns")
	n.Outs = listed(p, ";", (*parser).variable)
	n.B.Vars = p.locals()
	p.want("let")
	n.B.Eqs = p.equations()
	p.want("tel")
	return n
}

// locals are the variables of a block.
func (p *parser) locals() []api.Var {
	if !p.accept("var") {
		return nil
	}
	var l []api.Var
	for len(l) == 0 || p.is("last") || p.has(lex.Small) {
		l = append(l, p.variable())
		p.want(";")
	}
	return l
}

func (p *parser) variable() api.Var {
	last := p.accept("last")
	name := p.take(lex.Small)
	p.want(":")
	v := api.Var{Name: name.Text, T: p.typed(), Last: last, At: name.At}
	for p.accept("when") {
		v.Clock = append(v.Clock, p.on())
	}
	if last {
		p.want("=")
		v.First = p.unary()
		if !tree.Const(v.First) {
			p.fail(api.Syntax, v.First.At)
		}
	}
	return v
}

// typed is the type of a variable.
func (p *parser) typed() api.Type {
	switch {
	case p.accept("bool"):
		return api.Type{Kind: api.TBool}
	case p.accept("int"):
		return api.Type{Kind: api.TInt}
	}
	return api.Type{Kind: api.TEnum, Name: p.small()}
}

func (p *parser) block() api.Block {
	p.enter()
	defer p.leave()
	vars := p.locals()
	p.want("do")
	return api.Block{Vars: vars, Eqs: p.equations()}
}
