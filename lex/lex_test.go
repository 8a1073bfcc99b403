package lex_test

import (
	"fmt"
	"regexp"
	"slices"
	"strings"
	"testing"

	"metronome/api"
	"metronome/faults"
	"metronome/lex"
)

func at(line, col int) api.Pos { return api.Pos{Line: line, Col: col} }

// told is a token as a short text, so that lists of them can be read.
func told(t lex.Token) string {
	kinds := []string{"end", "number", "small", "great", "key", "sign"}
	s := fmt.Sprintf("%s %s@%d:%d", kinds[t.Kind], t.Text, t.At.Line, t.At.Col)
	if t.Kind == lex.Number || t.N != 0 {
		s += fmt.Sprintf("=%d", t.N)
	}
	return s
}

// words are the tokens of s, told; or its error.
func words(s string) []string {
	l, err := lex.Words(s)
	if err != nil {
		if l != nil {
			return []string{"words beside an error"}
		}
		return []string{faults.Text(err)}
	}
	var r []string
	for _, t := range l {
		r = append(r, told(t))
	}
	return r
}

func check(t *testing.T, s string, want ...string) {
	t.Helper()
	if got := words(s); !slices.Equal(got, want) {
		t.Errorf("%.80q:\n%q, not\n%q", s, got, want)
	}
}

func TestKinds(t *testing.T) { // P3.1: the kinds are numbered
	if got := [...]byte{lex.End, lex.Number, lex.Small, lex.Great, lex.Key, lex.Sign}; got != [...]byte{0, 1, 2, 3, 4, 5} {
		t.Error(got)
	}
}

func TestWords(t *testing.T) { // P3.1
	check(t, "x=-1", "small x@1:1", "sign =@1:2", "sign -@1:3", "number 1@1:4=1", "end @1:5")
	check(t, "node f(a: int) returns (x: int)\nlet\n\tx = 0 fby Up_1;\ntel\n",
		"key node@1:1", "small f@1:6", "sign (@1:7", "small a@1:8", "sign :@1:9", "key int@1:11", "sign )@1:14",
		"key returns@1:16", "sign (@1:24", "small x@1:25", "sign :@1:26", "key int@1:28", "sign )@1:31",
		"key let@2:1", "small x@3:2", "sign =@3:4", "number 0@3:6=0", "key fby@3:8", "great Up_1@3:12", "sign ;@3:16", "key tel@4:1", "end @5:1")
	check(t, "a1b2 A_ aB Ab z9_ Node LET lets in int0",
		"small a1b2@1:1", "great A_@1:6", "small aB@1:9", "great Ab@1:12", "small z9_@1:15", "great Node@1:19", "great LET@1:24", "small lets@1:28", "small in@1:33", "small int0@1:36", "end @1:40")
}

func TestGaps(t *testing.T) { // P3.1
	check(t, "", "end @1:1")
	check(t, " ", "end @1:2")
	check(t, "\t\t", "end @1:3")
	check(t, "\n", "end @2:1")
	check(t, "\n\n x", "small x@3:2", "end @3:3")
	check(t, "--", "end @1:3")
	check(t, "-- x", "end @1:5")
	check(t, "--\n", "end @2:1")
	check(t, "a--b\nc -- d\t\n--\n-- e", "small a@1:1", "small c@2:1", "end @4:5")
	check(t, "a -- \xff\x00\r $ _ 99999999999\nb", "small a@1:1", "small b@2:1", "end @2:2")
	check(t, "-->x\n<", "sign <@2:1", "end @2:2")
	check(t, "a---1\n2", "small a@1:1", "number 2@2:1=2", "end @2:2")
	check(t, "(a)b;1+c", "sign (@1:1", "small a@1:2", "sign )@1:3", "small b@1:4", "sign ;@1:5", "number 1@1:6=1", "sign +@1:7", "small c@1:8", "end @1:9")
}

func TestSigns(t *testing.T) { // P3.1
	check(t, "()=+-*/<>;:,|", "sign (@1:1", "sign )@1:2", "sign =@1:3", "sign +@1:4", "sign -@1:5", "sign *@1:6", "sign /@1:7", "sign <>@1:8", "sign ;@1:10", "sign :@1:11", "sign ,@1:12", "sign |@1:13", "end @1:14")
	check(t, "<<>>=<==->->=", "sign <@1:1", "sign <>@1:2", "sign >=@1:4", "sign <=@1:6", "sign =@1:8", "sign ->@1:9", "sign ->@1:11", "sign =@1:13", "end @1:14")
	check(t, "- -", "sign -@1:1", "sign -@1:3", "end @1:4")
	check(t, "<-", "sign <@1:1", "sign -@1:2", "end @1:3")
	check(t, ">", "sign >@1:1", "end @1:2")
	check(t, "< > - >", "sign <@1:1", "sign >@1:3", "sign -@1:5", "sign >@1:7", "end @1:8")
	check(t, "=<", "sign =@1:1", "sign <@1:2", "end @1:3")
}

func TestNumbers(t *testing.T) { // P3.1, P3.2
	zeros := strings.Repeat("0", 60000)
	for s, n := range map[string]int32{"0": 0, "7": 7, "007": 7, "2147483647": 1<<31 - 1, "2147483648": -1 << 31, "0002147483648": -1 << 31, zeros: 0, zeros + "12": 12} {
		check(t, s, fmt.Sprintf("number %s@1:1=%d", s, n), fmt.Sprintf("end @1:%d", len(s)+1))
	}
	for _, s := range []string{"2147483649", "2147483650", "4294967295", "4294967296", "4294967297", "9999999999", "18446744073709551616", "18446744073709551617", "0002147483649", strings.Repeat("9", 60000), "1" + zeros} {
		check(t, s, "1:1: limit")
		check(t, "\n x = "+s+";", "2:6: limit")
	}
	check(t, "1 2", "number 1@1:1=1", "number 2@1:3=2", "end @1:4")
	check(t, "1-2", "number 1@1:1=1", "sign -@1:2", "number 2@1:3=2", "end @1:4")
}

func TestLimits(t *testing.T) { // P3.2
	most := strings.Repeat("a", api.MaxName)
	check(t, most, "small "+most+"@1:1", "end @1:33")
	check(t, "A"+most[1:]+"+", "great A"+most[1:]+"@1:1", "sign +@1:33", "end @1:34")
	for _, s := range []string{most + "a", most + "_", most + "0", "Z" + most, strings.Repeat("node", 9)} {
		check(t, s, "1:1: limit")
		check(t, "x\n\t"+s, "2:2: limit")
	}
	text := strings.Repeat(" ", api.MaxText)
	check(t, text, "end @1:65537")
	check(t, text+" ", "1:1: limit")
	check(t, "$"+text, "1:1: limit")
	check(t, "\n\n"+text[2:]+"$", "1:1: limit")
	check(t, "\n"+text[2:]+"$", "2:65535: lexic")
}

func TestLexic(t *testing.T) { // P3.2
	check(t, "1a", "1:1: lexic")
	check(t, "x = 12_", "1:5: lexic")
	check(t, "0Z;", "1:1: lexic")
	check(t, "_", "1:1: lexic")
	check(t, "_a", "1:1: lexic")
	check(t, "a\n __", "2:2: lexic")
	check(t, "1\xc3\xa4", "1:2: lexic") // of a number and a byte, the byte is wrong
	check(t, "a\xff", "1:2: lexic")
	check(t, "x\r\n", "1:2: lexic")
	for c := range 256 {
		if s := string([]byte{byte(c)}); !strings.Contains(" \t\n()=+-*/<>;:,|", s) && !regexp.MustCompile(`^[0-9a-zA-Z]$`).MatchString(s) {
			check(t, s, "1:1: lexic")
			check(t, "a "+s+" 1", "1:3: lexic")
		}
	}
}

func TestBoth(t *testing.T) { // P3.2: Limit stands above Lexic in one word, but the first word is told
	long := strings.Repeat("b", api.MaxName)
	check(t, "2147483649a", "1:1: limit")
	check(t, "2147483649_", "1:1: limit")
	check(t, "_"+long, "1:1: limit")
	check(t, "_"+long[1:], "1:1: lexic")
	check(t, "1"+long+"b", "1:1: lexic")
	check(t, "1a 2147483649", "1:1: lexic")
	check(t, "2147483649 1a", "1:1: limit")
	check(t, "_ "+long+"b", "1:1: lexic")
	check(t, "a ? "+long+"b", "1:3: lexic")
}

// keys are the words that are no names, in the document's order.
func keys() []string {
	return strings.Fields("and automaton bool continue do else end every false fby if int last let merge mod node not or pre reset returns switch tel then true type unless until var when xor")
}

func TestIsKey(t *testing.T) { // P3.3, P3.1
	for _, s := range keys() {
		if !lex.IsKey(s) {
			t.Errorf("%s is none", s)
		}
		check(t, s, "key "+s+"@1:1", fmt.Sprintf("end @1:%d", len(s)+1))
		great := strings.ToUpper(s[:1]) + s[1:]
		check(t, great, "great "+great+"@1:1", fmt.Sprintf("end @1:%d", len(s)+1))
		check(t, s+"_", "small "+s+"_@1:1", fmt.Sprintf("end @1:%d", len(s)+2))
		for _, other := range []string{great, s + "_", s + " ", " " + s, s[:len(s)-1]} {
			if lex.IsKey(other) != slices.Contains(keys(), other) {
				t.Errorf("%q", other)
			}
		}
	}
	for _, s := range []string{"", "x", "->", "1", "bools", "integer", "AND", "node\x00"} {
		if lex.IsKey(s) {
			t.Errorf("%q is one", s)
		}
	}
}

func TestSame(t *testing.T) { // P3.3
	a := lex.Token{Kind: lex.Number, Text: "7", N: 7, At: at(1, 2)}
	b := a
	b.At = at(3, 4)
	if !lex.Same(a, a) || !lex.Same(a, b) || !lex.Same(lex.Token{}, lex.Token{At: at(9, 9)}) {
		t.Error("the same")
	}
	for i, c := range []lex.Token{{Kind: lex.Small, Text: "7", N: 7, At: a.At}, {Kind: lex.Number, Text: "07", N: 7, At: a.At}, {Kind: lex.Number, Text: "7", N: 8, At: a.At}, {}} {
		if lex.Same(a, c) || lex.Same(c, b) {
			t.Errorf("%d: not the same", i)
		}
	}
}

func TestJoin(t *testing.T) { // P3.3
	x, y, none, end := lex.Token{Kind: lex.Small, Text: "x"}, lex.Token{Kind: lex.Sign, Text: "->"}, lex.Token{Kind: lex.Key}, lex.Token{}
	for i, r := range []struct {
		l    []lex.Token
		want string
	}{
		{nil, ""}, {[]lex.Token{end}, ""}, {[]lex.Token{x}, "x"}, {[]lex.Token{x, end}, "x"}, {[]lex.Token{x, y, x}, "x -> x"}, {[]lex.Token{x, y, end}, "x ->"},
		{[]lex.Token{end, x}, " x"}, {[]lex.Token{x, end, end, y}, "x ->"}, {[]lex.Token{none, x}, " x"}, {[]lex.Token{x, none}, "x "}, {[]lex.Token{x, {Text: "z"}, y}, "xz ->"},
	} {
		if got := lex.Join(r.l); got != r.want {
			t.Errorf("%d: %q, not %q", i, got, r.want)
		}
	}
	s := "node f ( a : int ) -- all of it\n returns(x:int)let x=a<>-1;tel"
	l, _ := lex.Words(s)
	again, err := lex.Words(lex.Join(l))
	if err != nil || !slices.EqualFunc(l, again, lex.Same) {
		t.Errorf("%q", lex.Join(l))
	}
}

// reference cuts a text into words by another way: a pattern tried at each place.
func reference(s string) []string {
	gap := regexp.MustCompile(`^(?:[ \t\n]|--[^\n]*)`)
	word := regexp.MustCompile(`^(?:[0-9]+[A-Za-z_]?|[A-Za-z_][0-9A-Za-z_]*|<>|<=|>=|->|[()=+\-*/<>;:,|])`)
	var r []string
	for i := 0; ; {
		if g := gap.FindString(s[i:]); g != "" {
			i += len(g)
			continue
		}
		p := at(1+strings.Count(s[:i], "\n"), i-strings.LastIndexByte(s[:i], '\n'))
		if i == len(s) {
			return append(r, told(lex.Token{At: p}))
		}
		w := word.FindString(s[i:])
		if w == "" || w[0] == '_' || w[0] <= '9' && w[0] >= '0' && w[len(w)-1] > '9' {
			return []string{fmt.Sprintf("%d:%d: lexic", p.Line, p.Col)}
		}
		t := lex.Token{Text: w, At: p, Kind: lex.Sign}
		switch {
		case w[0] >= '0' && w[0] <= '9':
			t.Kind = lex.Number
			fmt.Sscan(strings.TrimLeft(w[:len(w)-1], "0")+w[len(w)-1:], &t.N)
		case slices.Contains(keys(), w):
			t.Kind = lex.Key
		case w[0] >= 'A' && w[0] <= 'Z':
			t.Kind = lex.Great
		case w[0] >= 'a' && w[0] <= 'z':
			t.Kind = lex.Small
		}
		r = append(r, told(t))
		i += len(w)
	}
}

func TestAllShortTexts(t *testing.T) { // P1, P3.1, P3.2
	parts := []string{"-", ">", "<", "=", " ", "\n", "a", "B", "_", "0", "7", "if", "(", "\xff"}
	texts := []string{""}
	for range 4 {
		for _, s := range texts {
			for _, p := range parts {
				if got, want := words(s+p), reference(s+p); !slices.Equal(got, want) {
					t.Fatalf("%q:\n%q, not\n%q", s+p, got, want)
				}
			}
		}
		var longer []string
		for _, s := range texts {
			for _, p := range parts {
				longer = append(longer, s+p)
			}
		}
		texts = longer
	}
}

func TestAgain(t *testing.T) { // P2
	s := "x = 1 -- one\n"
	first := words(s)
	lex.Words("$")
	for range 2 {
		if got := words(s); !slices.Equal(got, first) {
			t.Errorf("%q, not %q", got, first)
		}
	}
}
