package parse_test

import (
	"fmt"
	"reflect"
	"strings"
	"testing"

	"metronome/api"
	"metronome/faults"
	"metronome/nums"
	"metronome/parse"
)

// told is an expression as a short text in which each part has its place.
func told(e api.Expr) string {
	var kids []string
	for i, k := range e.Kids {
		s := told(k)
		if e.Kind == api.EMerge {
			s = e.Names[i] + ":" + s
		}
		kids = append(kids, s)
	}
	s := fmt.Sprintf("%s@%d:%d", head(e), e.At.Line, e.At.Col)
	if len(kids) > 0 {
		s += "(" + strings.Join(kids, " ") + ")"
	}
	return s
}

func head(e api.Expr) string {
	switch e.Kind {
	case api.EInt:
		return fmt.Sprint(e.N)
	case api.EBool:
		return []string{"false", "true"}[e.N]
	case api.ECtor, api.EVar:
		return e.Name
	case api.ELast:
		return "last." + e.Name
	case api.EUn:
		return map[byte]string{api.Not: "not", api.Neg: "neg"}[e.Op]
	case api.EBin:
		return nums.Word(e.Op)
	case api.EWhen:
		return "when." + e.Names[0] + "." + e.Name
	case api.EMerge:
		return "merge." + e.Name
	}
	return map[byte]string{api.EIf: "if", api.EFby: "fby", api.EPre: "pre", api.EArrow: "->"}[e.Kind]
}

// expr is what Expr answers, told.
func expr(s string) string {
	e, err := parse.Expr(s)
	if err == nil {
		return told(e)
	}
	if !reflect.DeepEqual(e, api.Expr{}) {
		return "an expression beside an error"
	}
	return faults.Text(err)
}

// fault is the error of Program, told.
func fault(s string) string {
	p, err := parse.Program(s)
	if err != nil && !reflect.DeepEqual(p, api.Program{}) {
		return "a program beside an error"
	}
	return faults.Text(err)
}

func check(t *testing.T, s, want string) {
	t.Helper()
	if got := expr(s); got != want {
		t.Errorf("%.300s:\n%s, not\n%s", s, got, want)
	}
}

func checkProgram(t *testing.T, s, want string) {
	t.Helper()
	if got := fault(s); got != want {
		t.Errorf("%.300s:\n%s, not\n%s", s, got, want)
	}
}

func TestAtoms(t *testing.T) { // P6.1
	check(t, "7", "7@1:1")
	check(t, "2147483647", "2147483647@1:1")
	check(t, "\n  Red", "Red@2:3")
	check(t, "x", "x@1:1")
	check(t, "true", "true@1:1")
	check(t, "false", "false@1:1")
	check(t, "last x", "last.x@1:1")
	check(t, "((x))", "x@1:3")
	check(t, "( -- one\n\tx )", "x@2:2")
	check(t, "merge v (C -> a)", "merge.v@1:1(C:a@1:15)")
	check(t, "(merge v (true -> a) (false -> 1 + b) (C -> c))", "merge.v@1:2(true:a@1:19 false:+@1:32(1@1:32 b@1:36) C:c@1:45)")
	check(t, "merge v (C -> a) when D(w)", "when.D.w@1:1(merge.v@1:1(C:a@1:15))")
}

func TestUnary(t *testing.T) { // P6.1
	check(t, "not x", "not@1:1(x@1:5)")
	check(t, "- x", "neg@1:1(x@1:3)")
	check(t, "pre x", "pre@1:1(x@1:5)")
	check(t, "not - pre not x", "not@1:1(neg@1:5(pre@1:7(not@1:11(x@1:15))))")
	check(t, "pre -7", "pre@1:1(-7@1:5)")
	check(t, "not x = y", "=@1:1(not@1:1(x@1:5) y@1:9)")
	check(t, "- x * y", "*@1:1(neg@1:1(x@1:3) y@1:7)")
	check(t, "pre x + y", "+@1:1(pre@1:1(x@1:5) y@1:9)")
	check(t, "not (x = y)", "not@1:1(=@1:6(x@1:6 y@1:10))")
	check(t, "not (if a then b else c)", "not@1:1(if@1:6(a@1:9 b@1:16 c@1:23))")
}

func TestNegativeNumbers(t *testing.T) { // P6.1, P6.2
	check(t, "-7", "-7@1:1")
	check(t, "-\n 7", "-7@1:1")
	check(t, "-0", "0@1:1")
	check(t, "-2147483648", "-2147483648@1:1")
	check(t, "- 0002147483648", "-2147483648@1:1")
	check(t, "-(7)", "neg@1:1(7@1:3)")
	check(t, "- -7", "neg@1:1(-7@1:3)")
	check(t, "a-7", "-@1:1(a@1:1 7@1:3)")
	check(t, "a - -7", "-@1:1(a@1:1 -7@1:5)")
	check(t, "a - - b", "-@1:1(a@1:1 neg@1:5(b@1:7))")
	check(t, "-7 - 7", "-@1:1(-7@1:1 7@1:6)")
	check(t, "-7 when C(v)", "when.C.v@1:1(-7@1:1)")
	check(t, "-x when C(v)", "neg@1:1(when.C.v@1:2(x@1:2))")
	for s, want := range map[string]string{
		"2147483648": "1:1", "(2147483648)": "1:2", "-(2147483648)": "1:3", "a - 2147483648": "1:5", "not 2147483648": "1:5", "pre 2147483648": "1:5",
		"2147483648 2147483648": "1:1", "1 fby 2147483648": "1:7", "if 2147483648": "1:4", "merge v (C -> 002147483648": "1:15", "- - (2147483648)": "1:6",
	} {
		check(t, s, want+": limit")
	}
	for s, want := range map[string]string{"x 2147483648": "1:3", "last 2147483648": "1:6", "x when 2147483648": "1:8", "merge 2147483648": "1:7", "-7 2147483648": "1:4", "-2147483648 2147483648": "1:13"} {
		check(t, s, want+": syntax")
	}
	check(t, "- - 2147483648", "neg@1:1(-2147483648@1:3)")
	check(t, "a - - 2147483648", "-@1:1(a@1:1 -2147483648@1:5)")
}

func TestWhen(t *testing.T) { // P6.1
	check(t, "x when C(v)", "when.C.v@1:1(x@1:1)")
	check(t, "x when true(v) when false(w)", "when.false.w@1:1(when.true.v@1:1(x@1:1))")
	check(t, "(x) when C(v)", "when.C.v@1:2(x@1:2)")
	check(t, "( (x) + y ) when C(v)", "when.C.v@1:3(+@1:3(x@1:4 y@1:9))")
	check(t, "x + y when C(v)", "+@1:1(x@1:1 when.C.v@1:5(y@1:5))")
	check(t, "not x when C(v)", "not@1:1(when.C.v@1:5(x@1:5))")
	check(t, "(not x) when C(v)", "when.C.v@1:2(not@1:2(x@1:6))")
	check(t, "last x when C(v)", "when.C.v@1:1(last.x@1:1)")
}

func TestPlaces(t *testing.T) { // P6.1: an expression with two operands stands where its first word does, even if that is a parenthesis
	check(t, "(a) + b", "+@1:1(a@1:2 b@1:7)")
	check(t, "((a + b))", "+@1:3(a@1:3 b@1:7)")
	check(t, "((a) + b)", "+@1:2(a@1:3 b@1:8)")
	check(t, "a + (b) * c", "+@1:1(a@1:1 *@1:5(b@1:6 c@1:11))")
	check(t, "(a) * b + c", "+@1:1(*@1:1(a@1:2 b@1:7) c@1:11)")
	check(t, "(1) fby (x)", "fby@1:1(1@1:2 x@1:10)")
	check(t, "(a) -> b", "->@1:1(a@1:2 b@1:8)")
	check(t, "(a) when C(v) + b", "+@1:1(when.C.v@1:2(a@1:2) b@1:17)")
	check(t, "(if a then b else c) + (if d then (e) else f)", "+@1:1(if@1:2(a@1:5 b@1:12 c@1:19) if@1:25(d@1:28 e@1:36 f@1:44))")
}

func TestStreams(t *testing.T) { // P6.1
	check(t, "a -> b", "->@1:1(a@1:1 b@1:6)")
	check(t, "a -> b -> c", "->@1:1(a@1:1 ->@1:6(b@1:6 c@1:11))")
	check(t, "1 fby 2 fby x", "fby@1:1(1@1:1 fby@1:7(2@1:7 x@1:13))")
	check(t, "a + b -> c or d", "->@1:1(+@1:1(a@1:1 b@1:5) or@1:10(c@1:10 d@1:15))")
	check(t, "a -> if b then c else d", "->@1:1(a@1:1 if@1:6(b@1:9 c@1:16 d@1:23))")
	check(t, "1 fby a + b", "fby@1:1(1@1:1 +@1:7(a@1:7 b@1:11))")
	check(t, "1 + (2 fby x)", "+@1:1(1@1:1 fby@1:6(2@1:6 x@1:12))")
	check(t, "if a then b else c -> d", "if@1:1(a@1:4 b@1:11 ->@1:18(c@1:18 d@1:23))")
	check(t, "if a -> b then c -> d else if e then f else g", "if@1:1(->@1:4(a@1:4 b@1:9) ->@1:16(c@1:16 d@1:21) if@1:28(e@1:31 f@1:38 g@1:45))")
	for s, first := range map[string]string{"5": "5@1:1", "-5": "-5@1:1", "true": "true@1:1", "false": "false@1:1", "Red": "Red@1:1", "-2147483648": "-2147483648@1:1", "(5)": "5@1:2", "((-5))": "-5@1:3"} {
		check(t, s+"\nfby x", "fby@1:1("+first+" x@2:5)")
	}
	for _, s := range []string{"a", "last a", "1 + 2", "-(5)", "- -5", "not true", "pre 1", "(1 fby 2)", "5 when C(v)", "-5 when C(v)", "merge v (C -> 1)", "(if a then 1 else 2)", "a < b"} {
		check(t, s+"\nfby x", "2:1: syntax")
		check(t, s+"\nfby fby", "2:1: syntax")
	}
	check(t, "if a then 1 else b fby c", "1:20: syntax")
	check(t, "1 -> a fby b", "1:8: syntax")
	check(t, "1 fby 2 -> 3", "fby@1:1(1@1:1 ->@1:7(2@1:7 3@1:12))")
}

// operators are all binary ones.
func operators() []byte {
	var l []byte
	for op := api.Add; op <= api.Ge; op++ {
		l = append(l, op)
	}
	return l
}

// grouped is the tree of operands a, b, c .. with operators between, found by the place of the operator that is applied last: of the weakest ones the last; or the second of two comparisons that follow each other.
func grouped(ops []byte, from int) string {
	if len(ops) == 0 {
		return fmt.Sprintf("%c@%d:1", 'a'+from, 2*from+1)
	}
	at := 0
	for i, op := range ops {
		if nums.Strength(op) <= nums.Strength(ops[at]) {
			at = i
		}
	}
	return fmt.Sprintf("%s@%d:1(%s %s)", nums.Word(ops[at]), 2*from+1, grouped(ops[:at], from), grouped(ops[at+1:], from+at+1))
}

// chained is the first comparison whose left side would be a comparison; below 0: there is none.
func chained(ops []byte) int {
	compared := false
	for i, op := range ops {
		switch s := nums.Strength(op); {
		case s < 3:
			compared = false
		case s == 3 && compared:
			return i
		case s == 3:
			compared = true
		}
	}
	return -1
}

func TestGroups(t *testing.T) { // P6.1: all rows of up to three operators
	check(t, "1 + 2 * x", "+@1:1(1@1:1 *@1:5(2@1:5 x@1:9))")
	rows := [][]byte{nil}
	for range 3 {
		for _, ops := range rows {
			for _, op := range operators() {
				rows = append(rows, append(append([]byte{}, ops...), op))
			}
		}
	}
	for _, ops := range rows {
		s := "a"
		for i, op := range ops {
			s += fmt.Sprintf("\n%s\n%c", nums.Word(op), 'b'+i)
		}
		want := grouped(ops, 0)
		if i := chained(ops); i >= 0 {
			want = fmt.Sprintf("%d:1: syntax", 2*i+2)
		}
		check(t, s, want)
	}
	check(t, "(a < b) = (c < d)", "=@1:1(<@1:2(a@1:2 b@1:6) <@1:12(c@1:12 d@1:16))")
	check(t, "(a < b) = c", "=@1:1(<@1:2(a@1:2 b@1:6) c@1:11)")
	check(t, "(a < b) = c = d", "1:13: syntax")
}

func TestExprSyntax(t *testing.T) { // P6.1, P6.2
	for s, want := range map[string]string{
		"": "1:1", "\n\n": "3:1", "-- none": "1:8", "(": "1:2", "()": "1:2", "(a": "1:3", "a)": "1:2", "a b": "1:3", "a;": "1:2", "a +": "1:4", "+ a": "1:1", "a + * b": "1:5",
		"not": "1:4", "-": "1:2", "pre": "1:4", "last": "1:5", "last X": "1:6", "last last": "1:6", "if": "1:3", "if a": "1:5", "if a then": "1:10", "if a then b": "1:12", "if a then b else": "1:17", "if a else": "1:6",
		"a when": "1:7", "a when c": "1:8", "a when C": "1:9", "a when C(": "1:10", "a when C(D": "1:10", "a when C(true": "1:10", "a when C(v": "1:11", "a when 1(v)": "1:8",
		"merge": "1:6", "merge C": "1:7", "merge v": "1:8", "merge v C": "1:9", "merge v (": "1:10", "merge v (c": "1:10", "merge v (C": "1:11", "merge v (C ->": "1:14", "merge v (C -> a": "1:16", "merge v ()": "1:10", "merge v (C -> a) (": "1:19",
		"f(a)": "1:2", "a -> ": "1:6", "1 fby": "1:6", "fby a": "1:1", "a and": "1:6", "a + not": "1:8", "a + if b then c else d": "1:5", "not if a then b else c": "1:5", "a mod mod b": "1:7",
		"if a then b else c)": "1:19", "then": "1:1", "a : b": "1:3", "a | b": "1:3", "end": "1:1", "bool": "1:1", "a <> <> b": "1:6",
	} {
		check(t, s, want+": syntax")
	}
}

func TestLexErrors(t *testing.T) { // P6.2: what lex.Words returns comes ahead of all else
	check(t, ") $", "1:3: lexic")
	check(t, "a\n 1x", "2:2: lexic")
	check(t, "2147483648 2147483649", "1:12: limit")
	check(t, strings.Repeat(" ", api.MaxText+1), "1:1: limit")
	checkProgram(t, "node node _", "1:11: lexic")
	checkProgram(t, ") 9999999999", "1:3: limit")
	checkProgram(t, strings.Repeat(" ", api.MaxText), "ok")
}
