package parse_test

import (
	"fmt"
	"math/rand"
	"slices"
	"strings"
	"testing"

	"metronome/api"
	"metronome/faults"
	"metronome/lex"
	"metronome/parse"
)

// grammar is that of P6.1, a production a line, with x for a Small name, f for one that a ( follows, C for a Great one and 0 for a Number.
const grammar = `
<program>
<program> <type> <program>
<program> <node> <program>
<type> type <x> = <ctors> ;
<ctors> C
<ctors> <ctors> | C
<node> node <x> ( <params> ) returns ( <params> ) <locals> let <eqs> tel
<params>
<params> <vars>
<vars> <var>
<vars> <vars> ; <var>
<locals>
<locals> var <many>
<many> <var> ;
<many> <many> <var> ;
<var> <x> : <of> <whens>
<var> last <x> : <of> <whens> = <first>
<of> bool
<of> int
<of> <x>
<whens>
<whens> <whens> when <on>
<on> <ctor> ( <x> )
<ctor> C
<ctor> true
<ctor> false
<eqs>
<eqs> <eqs> <eq> ;
<eq> <x> = <expr>
<eq> ( <x> ) = <expr>
<eq> <lhs> = f ( <args> ) <every>
<eq> switch <expr> <arms> end
<eq> automaton <states> end
<eq> reset <block> every <expr>
<lhs> <x>
<lhs> ( )
<lhs> ( <xs> )
<xs> <x>
<xs> <xs> , <x>
<args>
<args> <exprs>
<exprs> <expr>
<exprs> <exprs> , <expr>
<every>
<every> every <expr>
<arms> <arm>
<arms> <arms> <arm>
<arm> | <ctor> <block>
<states> <state>
<states> <states> <state>
<state> | C <block> <unless> <until>
<unless>
<unless> <unless> unless <way>
<until>
<until> <until> until <way>
<way> <expr> then C
<way> <expr> continue C
<block> <locals> do <eqs>
<expr> if <expr> then <expr> else <expr>
<expr> <or>
<expr> <or> -> <expr>
<expr> <const> fby <expr>
<const> 0
<const> - 0
<const> <ctor>
<const> ( <const> )
<or> <and>
<or> <or> or <and>
<or> <or> xor <and>
<and> <compared>
<and> <and> and <compared>
<compared> <sum>
<compared> <sum> = <sum>
<compared> <sum> <> <sum>
<compared> <sum> < <sum>
<compared> <sum> <= <sum>
<compared> <sum> > <sum>
<compared> <sum> >= <sum>
<sum> <product>
<sum> <sum> + <product>
<sum> <sum> - <product>
<product> <unary>
<product> <product> * <unary>
<product> <product> / <unary>
<product> <product> mod <unary>
<unary> not <unary>
<unary> - <unary>
<unary> pre <unary>
<unary> - 0 <whens>
<unary> <atom> <whens>
<atom> 0
<atom> <x>
<atom> <ctor>
<atom> last <x>
<atom> ( <expr> )
<atom> merge <x> <parts>
<parts> ( <ctor> -> <expr> )
<parts> <parts> ( <ctor> -> <expr> )
<x> x
<x> f
`

// item is a production that has been begun: how far, and at which word.
type item struct{ rule, dot, from int }

// chart goes through words, and keeps for each place between them which productions are open or ended there.
type chart struct {
	rules [][]string // the first of each is what it makes
	made  map[string][]int
	sets  [][]item
	seen  map[item]int
}

// newChart is a chart for a whole, whose first value may be what first says.
func newChart(whole, first string) *chart {
	c := &chart{made: map[string][]int{}}
	for _, line := range strings.Split(strings.TrimSpace(grammar+"<whole> "+whole+" $\n<first> "+first), "\n") {
		r := strings.Fields(line)
		c.made[r[0]] = append(c.made[r[0]], len(c.rules))
		c.rules = append(c.rules, r)
	}
	c.fill([]item{{c.made["<whole>"][0], 1, 0}})
	return c
}

// at is the symbol ahead in an item; "", if it is ended.
func (c *chart) at(i item) string {
	if r := c.rules[i.rule]; i.dot < len(r) {
		return r[i.dot]
	}
	return ""
}

// fill makes a new set of items, and adds all that follow from them.
func (c *chart) fill(set []item) {
	here := len(c.sets)
	c.seen = map[item]int{}
	empty := map[string]int{} // what is made of no words here
	add := func(i item) {
		if _, ok := c.seen[i]; !ok {
			c.seen[i] = 1
			set = append(set, i)
		}
	}
	for _, i := range set {
		c.seen[i] = 1
	}
	for n := 0; n < len(set); n++ {
		i := set[n]
		s := c.at(i)
		for _, r := range c.made[s] {
			add(item{r, 1, here})
		}
		if empty[s] > 0 {
			add(item{i.rule, i.dot + 1, i.from})
		}
		if s != "" {
			continue
		}
		made := c.rules[i.rule][0]
		from := set[:n]
		if i.from < here {
			from = c.sets[i.from]
		} else {
			empty[made] = 1
		}
		for _, j := range slices.Clone(from) {
			if c.at(j) == made {
				add(item{j.rule, j.dot + 1, j.from})
			}
		}
	}
	c.sets = append(c.sets, set)
}

// push goes on by a word, if it can stand there.
func (c *chart) push(word string) bool {
	var set []item
	for _, i := range c.sets[len(c.sets)-1] {
		if c.at(i) == word {
			set = append(set, item{i.rule, i.dot + 1, i.from})
		}
	}
	if len(set) > 0 {
		c.fill(set)
	}
	return len(set) > 0
}

// pop takes back the last word.
func (c *chart) pop() { c.sets = c.sets[:len(c.sets)-1] }

// sort is what a word is to the grammar.
func sort(l []lex.Token, i int) string {
	switch t := l[i]; {
	case t.Kind == lex.End:
		return "$"
	case t.Kind == lex.Number:
		return "0"
	case t.Kind == lex.Great:
		return "C"
	case t.Kind == lex.Small && l[i+1].Text == "(":
		return "f"
	case t.Kind == lex.Small:
		return "x"
	default:
		return t.Text
	}
}

// wrong is the first word that can't stand where it does; their number, if there is none.
func wrong(c *chart, l []lex.Token) int {
	for i := range l {
		if !c.push(sort(l, i)) {
			c.sets = c.sets[:1]
			return i
		}
	}
	c.sets = c.sets[:1]
	return len(l)
}

func TestShortExprs(t *testing.T) { // P6.1, P6.2: all rows of words up to some length
	words := strings.Fields("x C 7 true last ( ) - + * < = and or not pre if then else -> fby when merge")
	c := newChart("<expr>", "<const>")
	var row []string
	n, good := 0, 0
	var each func(most int)
	each = func(most int) {
		for _, w := range append(words, "$") {
			s := strings.TrimSuffix(strings.Join(append(slices.Clone(row), w), "\n"), "$")
			want := "ok"
			sort := map[string]string{"7": "0"}[w]
			if sort == "" {
				sort = w
			}
			ok := c.push(sort)
			if !ok {
				want = fmt.Sprintf("%d:1: syntax", len(row)+1)
			}
			if ok && w != "$" {
				row = append(row, w)
				if len(row) < most {
					each(most)
				}
				row = row[:len(row)-1]
			}
			if ok {
				c.pop()
			}
			if ok && w != "$" {
				continue // what it is to become is looked at behind it
			}
			n++
			if ok {
				good++
			}
			if _, err := parse.Expr(s); faults.Text(err) != want {
				t.Fatalf("%q: %v, not %s", s, err, want)
			}
		}
	}
	each(5)
	if good < 1000 {
		t.Errorf("%d rows, %d of them expressions", n, good)
	}
}

// samples are programs with all that the grammar has.
var samples = []string{`
type color = Red | Green | Blue; type one = One;
node f(a : int; last b : bool when true(a) = false) returns (c : color when Red(a) when Green(b); last d : one = One)
var e : int; last g : int = -5; h : bool;
let
  c = if a = 1 then Red else if not b then Green else Blue;
  (e) = (1 fby e) + 2 * -3 - - a mod 4;
  (e, h) = f(a, b when true(c), Red) every pre b or c;
  () = f();
  g = merge c (Red -> a when Red(c)) (Green -> 1 -> 2 when Green(c)) (Blue -> last g);
tel
node g() returns () let tel`, `
node count(up : bool; r : int) returns (n : int)
let
  automaton
  | Idle var x : int; do n = 0 fby n; x = n;
    unless up and r > 1 then Count
    unless r <= 2 xor up continue Idle
    until last n = 5 then Idle
  | Count
    do reset do n = count(up, r); switch n <> 1 | true do | false var y : bool; do y = up; end; every r >= 2;
    until up continue Idle
    until true then Count
  end;
  switch r
  | Red do n = 1 / 2;
  | Green do automaton | A do end;
  end;
  reset var last z : int when C(n) = 7; do z = 1; every false;
tel`}

// spoilt is a row of words in which some are changed.
func spoilt(d *rand.Rand, l, others []string) []string {
	l = slices.Clone(l)
	for range 1 + d.Intn(3) {
		i, j := d.Intn(len(l)), d.Intn(len(l))
		switch d.Intn(6) {
		case 0:
			l = slices.Delete(l, i, i+1)
		case 1:
			l = slices.Insert(l, i, others[d.Intn(len(others))])
		case 2:
			l[i] = others[d.Intn(len(others))]
		case 3:
			l[i], l[j] = l[j], l[i]
		case 4:
			l = slices.Insert(l, i, l[min(i, j):min(max(i, j), min(i, j)+9)]...)
		case 5:
			l = slices.Delete(l, min(i, j), min(max(i, j), min(i, j)+9))
		}
	}
	return l
}

func TestSpoiltPrograms(t *testing.T) { // P1, P6.1, P6.2: programs in which words are wrong
	strict, loose := newChart("<program>", "<const>"), newChart("<program>", "<unary>")
	d := rand.New(rand.NewSource(6))
	counts := map[api.Kind]int{}
	for _, s := range samples {
		checkProgram(t, s, "ok")
		var l []string
		words, _ := lex.Words(s)
		for _, w := range words[:len(words)-1] {
			l = append(l, w.Text)
		}
		others := append(strings.Fields("type bool . fby -> when merge then last 2147483647 <> , | ( ) ; ="), l...)
		others = slices.DeleteFunc(others, func(w string) bool { return w == "." })
		for range 2500 {
			s := strings.Join(append(spoilt(d, l, others), ""), "\n")
			words, _ := lex.Words(s)
			i, j := wrong(strict, words), wrong(loose, words)
			_, err := parse.Program(s)
			counts[faults.Kind(err)]++
			want := "ok"
			if i < len(words) {
				want = fmt.Sprintf("%d:1: syntax", i+1)
			}
			got := fault(s)
			// A first value that is no constant is told where it begins, if it ends at all: not at the word that makes it none.
			if i < j && faults.Kind(err) == api.Syntax && faults.Where(err).Line <= j+1 {
				continue
			}
			if got != want {
				t.Fatalf("%s:\n%s, not %s", strings.ReplaceAll(s, "\n", " "), got, want)
			}
		}
	}
	if counts[api.OK] < 100 || counts[api.Syntax] < 3000 || len(counts) > 2 {
		t.Error(counts)
	}
}
