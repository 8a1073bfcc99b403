package parse_test

import (
	"strconv"
	"strings"
	"testing"
)

// whatever are words of all sorts, and none: too deep is too deep at each of them.
func whatever() []string {
	return []string{"", "x", "1", "2147483648", "C", ")", "(", ";", "do", "var", "tel", "end", "not", "-", "->", "fby", "if", "every", "|", "last", "=", "merge", "pre"}
}

func times(n int, s string) string { return strings.Repeat(s, n) }

// limited looks whether a text, whatever follows in its next line, has its error there: Limit.
func limited(t *testing.T, check func(t *testing.T, s, want string), s string) {
	t.Helper()
	for _, w := range whatever() {
		check(t, s+"\n"+w, "2:1: limit")
	}
}

// levels open a level each: what stands ahead of a level in it, what stands behind, and how far the first of its levels is.
var levels = []struct{ before, behind, first string }{
	{"( ", " )", "("}, {"not ", "", "not"}, {"pre ", "", "pre"}, {"1 fby ", "", "1 fby"}, {"a -> ", "", "a ->"}, {"(a) + (", ")", "a + ("},
	{"if ", " then b else c", "if"}, {"if a then ", " else c", "if"}, {"if a then b else ", "", "if"},
	{"merge v ( C -> ", " )", "merge v (C ->"}, {"merge v ( C -> a ) ( D -> ", " )", "merge v (C ->"},
}

func TestDepth(t *testing.T) { // P6.2
	for _, l := range levels {
		if s := times(63, l.before) + "x" + times(63, l.behind); strings.HasSuffix(expr(s), "syntax") || strings.HasSuffix(expr(s), "limit") {
			t.Errorf("%s: %s", s, expr(s))
		}
		check(t, times(63, l.before)+"\n;", "2:1: syntax")
		limited(t, check, times(63, l.before)+l.first)
	}
}

func TestDepthBehindMinus(t *testing.T) { // P6.2: the - of a negative number opens nothing
	check(t, times(63, "( ")+"-7"+times(63, " )"), "-7@1:127")
	check(t, times(63, "- ")+"\n;", "2:1: syntax")
	check(t, times(63, "- ")+"-7;", "1:129: syntax")
	check(t, times(64, "- ")+"7;", "1:130: syntax")
	check(t, times(64, "- ")+"2147483648;", "1:139: syntax")
	check(t, times(64, "- ")+"-7", "1:129: limit")
	for _, w := range whatever() {
		if w == "" || w[0] > '9' || w[0] < '0' {
			check(t, times(64, "- ")+"\n"+w, "2:1: limit")
		}
	}
}

// places are where an expression, or the constant of a last variable, can stand in a node: how many levels are open ahead of it.
var places = []struct {
	before string
	open   int
}{
	{"x = ", 0}, {"(x) = ", 0}, {"x = f(", 0}, {"x = f(1, ", 0}, {"x = f() every ", 0}, {"() = f(1) every ", 0}, {"switch ", 0}, {"reset do every ", 0}, {"reset do x = 1; y = x; every ", 0},
	{"automaton | A do unless ", 0}, {"automaton | A do x = 1; until ", 0}, {"automaton | A do unless x then B unless ", 0}, {"automaton | A do | B do until ", 0},
	{"reset do x = ", 1}, {"switch x | C do y = 2; x = f(", 1}, {"automaton | C do x = f() every ", 1}, {"reset do reset do reset do every ", 2}, {"switch x | A do reset do every 1; | B do automaton | C do x = ", 2},
	{"reset do automaton | C do until ", 1}, {"switch (x) | C do x = (1); x = (2); switch ", 1}, {times(63, "reset do ") + "x = ", 63}, {times(64, "reset do ") + "every ", 63}, {times(64, "automaton | C do ") + "unless ", 63},
}

func TestDepthInPrograms(t *testing.T) { // P6.2: expressions, blocks and operands are counted together
	for _, p := range places {
		s, left := "node f() returns () let "+p.before, 63-p.open
		checkProgram(t, s+times(left, "(")+"\n;", "2:1: syntax")
		checkProgram(t, s+times(left, "not ")+"\n;", "2:1: syntax")
		limited(t, checkProgram, s+times(left+1, "("))
		limited(t, checkProgram, s+times(left+1, "not "))
		if left > 0 {
			limited(t, checkProgram, s+times(left-1, "(")+"pre not")
		}
	}
}

func TestDepthOfFirstValues(t *testing.T) { // P6.2: what stands behind their = opens nothing itself
	for _, s := range []string{"node f(last x : int =", "node f() returns (y : int; last x : int =", "node f() returns () var last x : int =", "node f() returns () let reset do x = 1; every x; automaton | C do unless 1 then C | D var last x : int ="} {
		open := strings.Count(s, " | D")
		checkProgram(t, s+times(64-open, "(")+"\n;", "2:1: syntax")
		checkProgram(t, s+"\n"+times(64-open, "not ")+"1", "2:1: syntax")
		limited(t, checkProgram, s+times(65-open, "("))
		limited(t, checkProgram, s+times(65-open, "not "))
	}
	checkProgram(t, "node f(last x : int = "+times(64, "(")+"1"+times(64, ")")+") returns () let tel", "ok")
}

// inBlocks is what stands ahead of the equations of a node, so many blocks deep.
func inBlocks(n int, block string) string {
	return "node f() returns () let " + times(n, block)
}

func TestDepthOfBlocks(t *testing.T) { // P6.2
	for _, b := range []struct{ before, behind string }{
		{"reset do ", "every x; "}, {"reset var x : int; do ", "every x; "}, {"switch x | C do ", "end; "}, {"switch x | C do | D do ", "end; "}, {"automaton | C do ", "end; "}, {"automaton | C do ", "unless x then C until 1 then C end; "}, {"x = 1; reset do () = f(); ", "every x; x = 2; "},
	} {
		s := inBlocks(64, b.before)
		behind := times(64, b.behind) + "tel"
		checkProgram(t, s+behind, "ok")
		checkProgram(t, s+"x = f(); () = f(); (x, y) = f(); "+behind, "ok")
		for _, w := range whatever() {
			checkProgram(t, s+"(x, y) =\n"+w, "2:1: syntax")
			if w == ")" {
				checkProgram(t, s+"x = f(\n"+w, "2:2: syntax")
				continue
			}
			checkProgram(t, s+"x = f(\n"+w, "2:1: limit")
		}
		for _, next := range []string{"x =", "(x) =", "x = f() every", "switch", "reset", "automaton | C"} {
			limited(t, checkProgram, s+next)
		}
		limited(t, checkProgram, inBlocks(63, b.before)+"reset do x =")
		limited(t, checkProgram, inBlocks(63, b.before)+"switch x | D do reset")
		limited(t, checkProgram, inBlocks(63, b.before)+"switch x | C do | D do automaton | C")
	}
}

func TestDepthAgain(t *testing.T) { // P6.2: what is closed is open no more
	e := times(31, "(not ") + "x" + times(31, ")")
	if got := expr(e + " + " + e); !strings.HasPrefix(got, "+@1:1(not") {
		t.Error(got)
	}
	checkProgram(t, inNode(times(100, "reset do x = 1; every "+e+";\n")), "ok")
	checkProgram(t, inNode(times(100, "switch "+e+" | A do y = "+e+"; | B do end;\n")), "ok")
	checkProgram(t, inNode(times(100, "automaton | A do y = "+e+"; unless "+e+" then A until "+e+" then A end;\n")), "ok")
	checkProgram(t, inNode(times(100, "x = f("+e+", "+e+") every "+e+";\n")), "ok")
}

// sum is a chain of n operands, whose tree is n deep.
func sum(n int) string { return "x" + times(n-1, " + x") }

func TestTreeDepth(t *testing.T) { // P6.2: a tree is too deep by its operators too
	for _, s := range []string{sum(64), "x" + times(63, " when C(v)"), "x + (" + sum(63) + ")", "(" + sum(63) + ") + x", "1 fby " + sum(63), "if a then b else " + sum(63), "not (" + sum(63) + ")", "merge v (C -> " + sum(63) + ")", "(" + sum(64) + ")", "-7" + times(63, " when C(v)"), times(32, "not ") + "x" + times(31, " when C(v)")} {
		if got := expr(s); !strings.Contains(got, "(") {
			t.Errorf("%s: %s", s, got)
		}
	}
	for s, want := range map[string]string{
		sum(65): "1:1", "x" + times(64, " when C(v)"): "1:1", "(x)" + times(64, " + x"): "1:1", "(x)" + times(64, " when C(v)"): "1:1", "(x + x)" + times(63, " + x"): "1:1", "(\n" + sum(65) + ")": "2:1", "x + (\n" + sum(65) + ")": "2:1",
		"x + (" + sum(64) + ")": "1:1", "((\n(" + sum(64) + ") + x)": "2:1", "1 fby " + sum(64): "1:1", "1 fby\n" + sum(65): "2:1", "a -> " + sum(64): "1:1", "(a) -> " + sum(64): "1:1", "not (" + sum(64) + ")": "1:1", "if a then b else " + sum(64): "1:1", "if\n" + sum(65): "2:1", "if a then\n" + sum(65): "2:1", "if a then b else\n" + sum(65): "2:1",
		"merge v (C -> " + sum(64) + ")": "1:1", "merge v (C -> a) (D ->\n" + sum(65): "2:1", times(33, "not ") + "x" + times(31, " when C(v)"): "1:1", sum(32000): "1:1", "x" + times(6000, " when C(v)"): "1:1", "x" + times(20000, "*x"): "1:1",
		"(\n" + sum(65) + ") + (" + sum(65) + ")": "2:1", "(\n(" + sum(64) + ") * x) + (" + sum(65) + ")": "2:1",
	} {
		check(t, s, want+": limit")
	}
	for _, p := range places {
		if p.open < 60 {
			checkProgram(t, "node f() returns () let "+p.before+"\n"+sum(65), "2:1: limit")
			checkProgram(t, "node f() returns () let "+p.before+"\n("+sum(64)+") = x", "2:1: limit")
		}
	}
}

func TestTreeDepthFound(t *testing.T) { // P6.2: that is found when the expression ends, not ahead of that
	deep := "\n" + sum(65)
	for _, s := range []string{deep, "(" + deep + ")", "x * (" + deep + ") +", deep + " )", deep + " x", deep + " then", "if" + deep + " else", "if a then" + deep + " then", "merge v (C -> x) (D -> " + deep} {
		check(t, s, "2:1: limit")
	}
	for _, s := range []string{sum(65) + " +", "(" + sum(65) + " -> a +", sum(65) + " when C", "if a then b else " + sum(65) + " -> not", "1 fby " + sum(65) + " * (x +"} {
		for _, w := range []string{")", ";", "then", "fby"} {
			check(t, s+"\n"+w, "2:1: syntax")
		}
	}
	check(t, sum(65)+"\nfby x", "2:1: syntax")
	check(t, "f("+deep, "1:2: syntax")
	for _, behind := range []string{"", ";", ") ;", "; ;", "every", "; x = " + sum(65)} {
		checkProgram(t, "node f() returns () let x ="+deep+behind, "2:1: limit")
		checkProgram(t, "node f() returns () let x = f(x,"+deep+behind, "2:1: limit")
		checkProgram(t, "node f() returns () var last x : int = ("+deep+behind, "2:1: limit")
	}
}

func TestNodes(t *testing.T) { // P6.2
	node := "node f() returns () let tel type t = A; "
	checkProgram(t, times(64, node), "ok")
	checkProgram(t, times(64, node)+times(100, "type t = A; "), "ok")
	checkProgram(t, times(64, node)+"\nnode", "2:1: limit")
	checkProgram(t, times(64, node)+"\n"+node, "2:1: limit")
	checkProgram(t, times(64, node)+"\ntype", "2:5: syntax")
	checkProgram(t, times(64, node)+"\nlet", "2:1: syntax")
	checkProgram(t, times(63, node)+"\nnode", "2:5: syntax")
}

func TestCtors(t *testing.T) { // P6.2
	head := "type t = A" + times(31, " | A")
	checkProgram(t, head+";", "ok")
	checkProgram(t, "type t = A"+times(30, " | A")+" |\n;", "2:1: syntax")
	limited(t, checkProgram, head+" |")
	checkProgram(t, head+"\nA", "2:1: syntax")
	checkProgram(t, times(3, head+";"), "ok")
}

func TestArms(t *testing.T) { // P6.2: states are arms too
	for _, s := range []string{"switch x" + times(32, " | A do y = 1;"), "switch x" + times(32, " | true do"), "automaton" + times(32, " | A do"), "automaton" + times(32, " | A do unless x then A until x continue A")} {
		checkProgram(t, inNode(s+" end;"), "ok")
		checkProgram(t, inNode(times(3, s+" end;")), "ok")
		checkProgram(t, inNode("reset do "+s+" end; every x; "+s+" | A do end;"), "2:"+column("reset do "+s+" end; every x; "+s+" |")+": limit")
		for _, w := range whatever() {
			checkProgram(t, "node f() returns () let "+s+"\n| "+w, "2:1: limit")
		}
		checkProgram(t, "node f() returns () let "+s+"\n)", "2:1: syntax")
	}
}

func TestMergeParts(t *testing.T) { // P6.2
	s := "merge v" + times(32, " (A -> x)")
	if got := expr(s); !strings.HasPrefix(got, "merge.v@1:1(A:x") {
		t.Error(got)
	}
	for _, w := range whatever() {
		check(t, s+"\n( "+w, "2:1: limit")
	}
	check(t, s+"\n)", "2:1: syntax")
	check(t, "merge v"+times(31, " (A -> x)")+" (\n)", "2:1: syntax")
	check(t, "merge v (B -> "+s+")"+times(31, " (A -> x)")+"\n(", "2:1: limit")
}

// column is where the last byte of a line stands.
func column(s string) string { return strconv.Itoa(len(s)) }
