package walk_test

import (
	"errors"
	"strings"
	"testing"

	"metronome/api"
	"metronome/walk"
)

func node(name string, kids ...api.Expr) api.Expr { return api.Expr{Name: name, Kids: kids} }

var some = node("r", node("a", node("b"), node("c", node("d"))), node("e"), node("f", node("g")))

func TestExpr(t *testing.T) {
	for _, c := range []struct{ skip, stop, want string }{
		{"", "", "rabbcddcaeefggfr"},
		{"c", "", "rabbccaeefggfr"},
		{"r", "", "rr"},
		{"", "c", "rabbcddc"},
		{"", "b", "rabb"},
	} {
		s := ""
		walk.Expr(&some, func(e *api.Expr) []api.Expr {
			s += e.Name
			if e.Name == c.skip {
				return nil
			}
			return e.Kids
		}, func(e *api.Expr) bool {
			s += e.Name
			return e.Name != c.stop
		})
		if s != c.want {
			t.Errorf("without the kids of %q, up to %q: %s", c.skip, c.stop, s)
		}
	}
}

func TestUp(t *testing.T) {
	bad := errors.New("bad")
	for stop, want := range map[string]string{"": "bdcaegfr", "c": "bdc", "r": "bdcaegfr"} {
		s := ""
		err := walk.Up(&some, func(e *api.Expr) error {
			s += e.Name
			if e.Name == stop {
				return bad
			}
			return nil
		})
		if s != want || (err == bad) != (stop != "") {
			t.Errorf("up to %q: %s, %v", stop, s, err)
		}
	}
}

func TestFold(t *testing.T) {
	bad := errors.New("bad")
	for stop, want := range map[string]string{"": "r(a(b,c(d)),e,f(g))", "d": "", "r": ""} {
		s, err := walk.Fold(&some, func(e *api.Expr, kids []string) (string, error) {
			if e.Name == stop {
				return "x", bad
			}
			if len(kids) == 0 {
				return e.Name, nil
			}
			return e.Name + "(" + strings.Join(kids, ",") + ")", nil
		})
		if s != want || (err == bad) != (stop != "") {
			t.Errorf("up to %q: %s, %v", stop, s, err)
		}
	}
}

// block is one of a variable, for its name, and equations.
func block(name string, eqs ...api.Equation) api.Block {
	return api.Block{Vars: []api.Var{{Name: name}}, Eqs: eqs}
}

func equation(kind byte, name string, blocks ...api.Block) api.Equation {
	q := api.Equation{Kind: kind, Name: name}
	for i, b := range blocks {
		q.Arms = append(q.Arms, api.Arm{Name: name + string(rune('0'+i)), B: b})
	}
	return q
}

func TestBlock(t *testing.T) {
	b := block("a",
		equation(api.QDef, "p", block("no")),
		equation(api.QSwitch, "q", block("b", equation(api.QCall, "r", block("no"))), block("c")),
		equation(api.QAuto, "s"),
		equation(api.QReset, "t", block("d")))
	const whole = "<a p.p; q. [q0 <b r.r; q0] b> [q1 <c q1] c> q; s.s; t. [t0 <d t0] d> t; a>"
	bad := errors.New("bad")
	for stop := range strings.SplitSeq("|<a|p.|p;|[q0|<b|r.|q0]|b>|<c|q1]|q;|s.|t;|a>", "|") {
		s := ""
		step := func(word string) error {
			s += word
			if word == stop {
				return bad
			}
			return nil
		}
		err := walk.Block(&b, walk.Steps{
			Enter: func(b *api.Block) error { return step("<" + b.Vars[0].Name) },
			Begin: func(q *api.Equation) error { return step(q.Name + ".") },
			Arm:   func(q *api.Equation, i int) error { return step("[" + q.Arms[i].Name) },
			Exit:  func(q *api.Equation, i int) error { return step(q.Arms[i].Name + "]") },
			Leave: func(b *api.Block) error { return step(b.Vars[0].Name + ">") },
			End:   func(q *api.Equation) error { return step(q.Name + ";") },
		})
		want := strings.ReplaceAll(whole, " ", "")
		if stop != "" {
			ahead, _, _ := strings.Cut(want, stop)
			want = ahead + stop
		}
		if s != want || (err == bad) != (stop != "") {
			t.Errorf("up to %q: %s, %v", stop, s, err)
		}
	}
	if err := walk.Block(&b, walk.Steps{}); err != nil {
		t.Errorf("without steps: %v", err)
	}
}
