package walk_test

import (
	"errors"
	"testing"

	"metronome/api"
	"metronome/walk"
)

func node(name string, kids ...api.Expr) api.Expr { return api.Expr{Name: name, Kids: kids} }

var some = node("r", node("a", node("b"), node("c", node("d"))), node("e"), node("f", node("g")))

func TestExpr(t *testing.T) {
	for _, c := range []struct{ skip, stop, want string }{
		{"", "", "rabbcddcaeefggfr"},
		{"c", "", "rabbccaeefggfr"},
		{"r", "", "rr"},
		{"", "c", "rabbcddc"},
		{"", "b", "rabb"},
	} {
		s := ""
		walk.Expr(&some, func(e *api.Expr) []api.Expr {
			s += e.Name
			if e.Name == c.skip {
				return nil
			}
			return e.Kids
		}, func(e *api.Expr) bool {
			s += e.Name
			return e.Name != c.stop
		})
		if s != c.want {
			t.Errorf("without the kids of %q, up to %q: %s", c.skip, c.stop, s)
		}
	}
}

func TestUp(t *testing.T) {
	bad := errors.New("bad")
	for stop, want := range map[string]string{"": "bdcaegfr", "c": "bdc", "r": "bdcaegfr"} {
		s := ""
		err := walk.Up(&some, func(e *api.Expr) error {
			s += e.Name
			if e.Name == stop {
				return bad
			}
			return nil
		})
		if s != want || (err == bad) != (stop != "") {
			t.Errorf("up to %q: %s, %v", stop, s, err)
		}
	}
}

func TestTodo(t *testing.T) {
	bad := errors.New("bad")
	for stop, want := range map[string]string{"": "abcdefg", "d": "abcd", "g": "abcdefg"} {
		var todo walk.Todo
		s := ""
		step := func(name string, more ...func() error) func() error {
			return func() error {
				s += name
				if name == stop {
					return bad
				}
				todo.Then(more...)
				return nil
			}
		}
		todo.Then(step("a", step("b"), step("c", step("d"))), step("e"))
		todo.Then()
		err := func() error {
			if err := todo.Run(); err != nil {
				return err
			}
			todo.Then(step("f"), step("g"))
			return todo.Run()
		}()
		if s != want || (err == bad) != (stop != "") {
			t.Errorf("up to %q: %s, %v", stop, s, err)
		}
	}
}
