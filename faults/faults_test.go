package faults_test

import (
	"errors"
	"fmt"
	"slices"
	"testing"

	"metronome/api"
	"metronome/faults"
)

// claims is an error that says itself what it is.
type claims struct{ k api.Kind }

func (claims) Error() string          { return "claims" }
func (c claims) Is(target error) bool { return target == error(c.k) }

// yields is an error that yields an At without wrapping it.
type yields struct{ at *faults.At }

func (yields) Error() string { return "yields" }
func (y yields) As(target any) bool {
	p, ok := target.(**faults.At)
	if ok {
		*p = y.at
	}
	return ok
}

// ring is an error that wraps itself.
type ring struct{}

func (ring) Error() string   { return "ring" }
func (r ring) Unwrap() error { return r }

// broken is an error whose methods panic when it is nil.
type broken struct{ err error }

func (b *broken) Error() string   { return b.err.Error() }
func (b *broken) Unwrap() error   { return b.err }
func (b *broken) Is(error) bool   { return b.err == nil }
func (b *broken) As(any) bool     { return b.err == nil }
func at(line, col int) api.Pos    { return api.Pos{Line: line, Col: col} }
func wrap(err error) error        { return fmt.Errorf("odd: %w", err) }
func named(k api.Kind) *faults.At { return &faults.At{Pos: at(8, 8), Name: "f", Named: true, Err: k} }

func TestError(t *testing.T) { // P1.1
	for _, r := range []struct {
		at   *faults.At
		want string
	}{
		{nil, "ok"},
		{&faults.At{}, "0:0"},
		{&faults.At{Pos: at(3, 7)}, "3:7"},
		{&faults.At{Pos: at(-1, 1<<40)}, "-1:1099511627776"},
		{&faults.At{Pos: at(3, 7), Name: "f", Err: api.Typed}, "3:7: typed"},
		{&faults.At{Pos: at(3, 7), Err: api.Kind(99)}, "3:7: kind"},
		{&faults.At{Named: true}, "in "},
		{&faults.At{Pos: at(3, 7), Name: "f", Named: true}, "in f"},
		{named(api.Name), "in f: name"},
		{&faults.At{Name: "g", Named: true, Err: named(api.Name)}, "in g: in f: name"},
		{&faults.At{Pos: at(1, 2), Err: &faults.At{Pos: at(3, 4), Err: errors.New("odd")}}, "1:2: 3:4: odd"},
		{&faults.At{Pos: at(1, 2), Err: wrap(named(api.Loop))}, "1:2: odd: in f: loop"},
		{&faults.At{Pos: at(1, 2), Err: (*faults.At)(nil)}, "1:2: ok"},
		{&faults.At{Pos: at(1, 2), Err: errors.Join(api.Name, api.Loop)}, "1:2: name\nloop"},
	} {
		if got := r.at.Error(); got != r.want {
			t.Errorf("%q, not %q", got, r.want)
		}
	}
}

func TestUnwrap(t *testing.T) { // P1.1
	odd := errors.New("odd")
	if (*faults.At)(nil).Unwrap() != nil || (&faults.At{}).Unwrap() != nil || (&faults.At{Err: odd}).Unwrap() != odd {
		t.Error("Unwrap")
	}
	if !errors.Is(wrap(&faults.At{Err: odd}), odd) {
		t.Error("errors.Is doesn't see through an At")
	}
}

func TestNew(t *testing.T) { // P1.1
	if faults.New(api.OK, at(1, 2)) != nil {
		t.Error("OK")
	}
	for _, k := range []api.Kind{-1, api.Lexic, api.Typed, api.Fault, 13} {
		a, ok := faults.New(k, at(3, 7)).(*faults.At)
		if !ok || *a != (faults.At{Pos: at(3, 7), Err: k}) {
			t.Errorf("New(%d) = %#v", k, a)
		}
	}
}

func TestIn(t *testing.T) { // P1.1
	if faults.In(nil, "f") != nil {
		t.Error("nil")
	}
	for _, err := range []error{api.Typed, api.OK, named(api.Name), (*faults.At)(nil), errors.New("odd")} {
		a, ok := faults.In(err, "g").(*faults.At)
		if !ok || *a != (faults.At{Name: "g", Named: true, Err: err}) {
			t.Errorf("In(%v) = %#v", err, a)
		}
	}
}

func TestKindOfEach(t *testing.T) { // P1.2
	for k := api.Lexic; k <= api.Fault; k++ {
		for i, err := range []error{k, faults.New(k, at(1, 1)), named(k), wrap(wrap(k)), claims{k}, wrap(claims{k}),
			faults.In(wrap(faults.In(k, "f")), "g"), errors.Join(api.Fault, k), errors.Join(k, errors.New("odd")), errors.Join(nil, wrap(errors.Join(k)))} {
			if got := faults.Kind(err); got != k {
				t.Errorf("%d: %v, not %v", i, got, k)
			}
		}
		for low := api.Lexic; low <= k; low++ {
			if faults.Kind(errors.Join(k, low)) != low || faults.Kind(errors.Join(low, named(k))) != low {
				t.Errorf("%v is lower than %v", low, k)
			}
		}
	}
}

func TestKindOfNone(t *testing.T) { // P1.2
	if faults.Kind(nil) != api.OK {
		t.Error("nil")
	}
	for i, err := range []error{errors.New("odd"), api.OK, wrap(api.OK), api.Kind(-1), api.Kind(13), &faults.At{}, (*faults.At)(nil), named(api.OK), claims{api.OK}, errors.Join(errors.New("odd"))} {
		if got := faults.Kind(err); got != api.Fault {
			t.Errorf("%d: %v", i, got)
		}
	}
}

func TestWhere(t *testing.T) { // P1.2
	err := faults.New(api.Typed, at(3, 7))
	none := (*faults.At)(nil)
	for i, r := range []struct {
		err  error
		want api.Pos
	}{
		{nil, at(0, 0)},
		{api.Typed, at(0, 0)},
		{errors.New("odd"), at(0, 0)},
		{err, at(3, 7)},
		{wrap(wrap(err)), at(3, 7)},
		{faults.In(wrap(faults.In(err, "f")), "g"), at(3, 7)},
		{&faults.At{Pos: at(1, 2), Err: err}, at(1, 2)},
		{&faults.At{Err: err}, at(0, 0)},
		{&faults.At{Pos: at(8, 8), Named: true, Err: err}, at(3, 7)},
		{named(api.Name), at(0, 0)},
		{&faults.At{Pos: at(8, 8), Named: true}, at(0, 0)},
		{none, at(0, 0)},
		{faults.In(wrap(none), "f"), at(0, 0)},
		{&faults.At{Pos: at(1, 2), Err: none}, at(1, 2)},
		{errors.Join(api.Name, err), at(3, 7)},
		{errors.Join(none, err), at(0, 0)},
		{errors.Join(err, none), at(3, 7)},
		{errors.Join(faults.In(none, "f"), err), at(0, 0)},
		{errors.Join(named(api.Name), wrap(err), faults.New(api.Typed, at(1, 1))), at(3, 7)},
		{errors.Join(errors.Join(named(api.Name), wrap(err)), faults.New(api.Typed, at(1, 1))), at(3, 7)},
		{wrap(faults.In(errors.Join(named(api.Name), errors.Join(named(api.Name)), err), "g")), at(3, 7)},
		{errors.Join(faults.In(errors.Join(named(api.Name), err), "g"), faults.New(api.Typed, at(1, 1))), at(3, 7)},
		{faults.In(yields{&faults.At{Pos: at(4, 4)}}, "f"), at(4, 4)},
		{errors.Join(yields{named(api.Name)}, err), at(3, 7)},
		{errors.Join(yields{nil}, err), at(0, 0)},
	} {
		if got := faults.Where(r.err); got != r.want {
			t.Errorf("%d: %v, not %v", i, got, r.want)
		}
	}
}

func TestTellAndText(t *testing.T) { // P1.2
	err := faults.In(faults.New(api.Typed, at(3, 7)), "f")
	if k, p := faults.Tell(err); k != api.Typed || p != at(3, 7) {
		t.Errorf("Tell: %v at %v", k, p)
	}
	if k, p := faults.Tell(nil); k != api.OK || p != at(0, 0) {
		t.Errorf("Tell of nil: %v at %v", k, p)
	}
	if k, p := faults.Tell(errors.New("odd")); k != api.Fault || p != at(0, 0) {
		t.Errorf("Tell of an odd error: %v at %v", k, p)
	}
	for want, err := range map[string]error{"ok": nil, "in f: 3:7: typed": err, "entry": api.Entry, "odd": errors.New("odd"), "": errors.New("")} {
		if got := faults.Text(err); got != want {
			t.Errorf("%q, not %q", got, want)
		}
	}
	if faults.Text((*faults.At)(nil)) != "ok" {
		t.Error("Text of a nil At")
	}
}

func TestFirst(t *testing.T) { // P1.2
	a, b, c := faults.New(api.Name, at(2, 9)), faults.New(api.Twice, at(2, 3)), faults.New(api.Typed, at(10, 1))
	again, inner, odd := wrap(faults.New(api.Loop, at(2, 3))), faults.In(faults.New(api.Loop, at(1, 50)), "f"), errors.New("odd")
	for i, r := range []struct {
		l    []error
		want error
	}{
		{nil, nil},
		{[]error{nil, nil}, nil},
		{[]error{nil, a, nil}, a},
		{[]error{nil, a, b}, b},
		{[]error{b, a}, b},
		{[]error{c, a}, a},
		{[]error{a, b, again}, b},
		{[]error{a, again, b}, again},
		{[]error{a, b, inner, c}, inner},
		{[]error{a, odd, b, api.Entry}, odd},
	} {
		kept := slices.Clone(r.l)
		if got := faults.First(r.l...); got != r.want {
			t.Errorf("%d: %v, not %v", i, got, r.want)
		}
		if !slices.Equal(kept, r.l) {
			t.Errorf("%d: the list was changed", i)
		}
	}
}

func TestLoops(t *testing.T) { // P1
	chain := &faults.At{Named: true, Name: "f"}
	chain.Err = faults.In(chain, "g")
	wrapped := &faults.At{Pos: at(1, 2)}
	wrapped.Err = wrap(wrapped)
	list := &faults.At{Named: true, Name: "f"}
	list.Err = errors.Join(errors.New("odd"), list)
	lone := ring{}
	for i, r := range []struct {
		err  error
		want api.Pos
	}{{chain, at(0, 0)}, {wrapped, at(1, 2)}, {list, at(0, 0)}, {&faults.At{Pos: at(3, 4), Err: lone}, at(3, 4)}, {faults.In(lone, "f"), at(0, 0)},
		{errors.Join(wrap(faults.New(api.Name, at(5, 6))), lone), at(5, 6)}, {errors.Join((*faults.At)(nil), faults.New(api.Name, at(5, 6)), chain), at(0, 0)}} {
		if k := faults.Kind(r.err); k != api.Fault {
			t.Errorf("%d: %v", i, k)
		}
		if p := faults.Where(r.err); p != r.want {
			t.Errorf("%d: at %v", i, p)
		}
		if faults.Text(r.err) == "" || faults.First(nil, r.err) != r.err {
			t.Errorf("%d: no text", i)
		}
	}
	if k, p := faults.Tell(lone); k != api.Fault || p != at(0, 0) {
		t.Errorf("%v at %v", k, p)
	}
}

func TestLongChain(t *testing.T) { // P1
	err := faults.New(api.Cause, at(3, 7))
	for range 100000 {
		err = faults.In(err, "f")
	}
	if k, p := faults.Tell(err); k != api.Cause || p != at(3, 7) {
		t.Errorf("%v at %v", k, p)
	}
	if s := faults.Text(err); len(s) != 100000*len("in f: ")+len("3:7: cause") {
		t.Errorf("%d bytes", len(s))
	}
}

func TestPanics(t *testing.T) { // P1
	none := (*broken)(nil)
	for i, err := range []error{none, faults.In(none, "f"), errors.Join(none, api.Name)} {
		if k := faults.Kind(err); k != api.Fault {
			t.Errorf("%d: %v", i, k)
		}
		if p := faults.Where(err); p != at(0, 0) {
			t.Errorf("%d: at %v", i, p)
		}
		if faults.First(err) != err {
			t.Errorf("%d: not the first", i)
		}
	}
	if k := faults.Kind(errors.Join(api.Name, none)); k != api.Name {
		t.Errorf("%v stands before what panics", k)
	}
	if faults.Text(none) != "" || faults.Text(faults.In(none, "f")) != "in f: " {
		t.Errorf("%q, %q", faults.Text(none), faults.Text(faults.In(none, "f")))
	}
}

func TestAgain(t *testing.T) { // P2
	err := wrap(errors.Join(named(api.Name), faults.In(faults.New(api.Typed, at(3, 7)), "f")))
	k, p, s := faults.Kind(err), faults.Where(err), faults.Text(err)
	for range 3 {
		faults.First(err, faults.New(api.Lexic, at(1, 1)), nil)
		if k2, p2 := faults.Tell(err); k2 != k || p2 != p || faults.Text(err) != s {
			t.Errorf("%v at %v, then %v at %v", k, p, k2, p2)
		}
	}
}
