package parse

import (
	"metronome/api"
	"metronome/faults"
	"metronome/lex"
)

// parser is what is left of a text: its words, the last of which is an End, and how many expressions, blocks and operands of unary operators are open at the first of them.
type parser struct {
	words []lex.Token
	open  int
}

// stop is the panic by which the parser leaves all that it has begun.
type stop struct{ err error }

func (p *parser) fail(k api.Kind, at api.Pos) {
	panic(stop{faults.New(k, at)})
}

// unexpected stops at the word ahead: it can't stand there.
func (p *parser) unexpected() {
	p.fail(api.Syntax, p.at())
}

// beyond stops at the word ahead: one of its sort would be too many.
func (p *parser) beyond() {
	p.fail(api.Limit, p.at())
}

// at is where the word ahead stands.
func (p *parser) at() api.Pos {
	return p.words[0].At
}

// is: is the word ahead that one? Only keys and signs are asked for: no name, no number and no End has such a text.
func (p *parser) is(text string) bool {
	return p.words[0].Text == text
}

// has: is the word ahead one of a kind?
func (p *parser) has(kind byte) bool {
	return p.words[0].Kind == kind
}

// followed: is the word behind the one ahead that one?
func (p *parser) followed(text string) bool {
	return len(p.words) > 1 && p.words[1].Text == text
}

// next takes the word ahead, whatever it is.
func (p *parser) next() lex.Token {
	t := p.words[0]
	p.words = p.words[1:]
	return t
}

// accept takes the word ahead if it is that one.
func (p *parser) accept(text string) bool {
	if !p.is(text) {
		return false
	}
	p.next()
	return true
}

// want takes a word that has to stand there.
func (p *parser) want(text string) {
	if !p.accept(text) {
		p.unexpected()
	}
}

// take takes a word of a kind that has to stand there.
func (p *parser) take(kind byte) lex.Token {
	if !p.has(kind) {
		p.unexpected()
	}
	return p.next()
}

// enter opens an expression, a block or an operand at the word ahead: too deep is too deep, whatever that word is.
func (p *parser) enter() {
	if p.open == api.MaxDepth {
		p.beyond()
	}
	p.open++
}

// leave closes what was opened last.
func (p *parser) leave() {
	p.open--
}

// listed is a list in parentheses, which may be empty, with sep between.
func listed[T any](p *parser, sep string, one func(*parser) T) []T {
	var l []T
	p.want("(")
	if p.accept(")") {
		return l
	}
	l = append(l, one(p))
	for p.accept(sep) {
		l = append(l, one(p))
	}
	p.want(")")
	return l
}

// few are parts that all begin with the same word: at least one, and at most as many as a type has constructors.
func few[T any](p *parser, first string, one func(*parser) T) []T {
	var l []T
	for len(l) == 0 || p.is(first) {
		if len(l) == api.MaxCtors {
			p.beyond()
		}
		p.want(first)
		l = append(l, one(p))
	}
	return l
}

func (p *parser) small() string {
	return p.take(lex.Small).Text
}

// ctor is a constructor, of bool too.
func (p *parser) ctor() lex.Token {
	if p.is("true") || p.is("false") {
		return p.next()
	}
	return p.take(lex.Great)
}

// on is a sampling, behind its when.
func (p *parser) on() api.On {
	c := p.ctor()
	p.want("(")
	v := p.small()
	p.want(")")
	return api.On{Ctor: c.Text, Var: v}
}
