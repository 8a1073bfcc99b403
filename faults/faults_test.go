package faults_test

import (
	"errors"
	"fmt"
	"slices"
	"testing"

	"metronome/api"
	"metronome/faults"
)

// claims is an error that says itself what it is.
type claims struct{ k api.Kind }

func (claims) Error() string          { return "claims" }
func (c claims) Is(target error) bool { return target == error(c.k) }

// yields is an error that yields an At without wrapping it.
type yields struct{ at *faults.At }

func (yields) Error() string { return "yields" }
func (y yields) As(target any) bool {
	p, ok := target.(**faults.At)
	if ok {
		*p = y.at
	}
	return ok
}

// ring is an error that wraps itself.
type ring struct{}

func (ring) Error() string   { return "ring" }
func (r ring) Unwrap() error { return r }

// broken is an error whose methods panic when it is nil.
type broken struct{ err error }

func (b *broken) Error() string { return b.err.Error() }
func (b *broken) Unwrap() error { return b.err }
func (b *broken) Is(error) bool { return b.err == nil }
func (b *broken) As(any) bool   { return b.err == nil }

// wrapped is an error that wraps another, as a value.
type wrapped struct{ err error }

func (wrapped) Error() string   { return "wrapped" }
func (w wrapped) Unwrap() error { return w.err }

// several is an error that wraps others, and can't be compared.
type several []error

func (several) Error() string     { return "several" }
func (s several) Unwrap() []error { return s }

// pair is an error that makes the list of what it wraps whenever it is asked.
type pair struct{ a, b error }

func (*pair) Error() string     { return "pair" }
func (p *pair) Unwrap() []error { return []error{p.a, p.b} }

// down is an error that makes what it wraps.
type down int

func (down) Error() string { return "down" }
func (d down) Unwrap() error {
	if d == 0 {
		return api.Cause
	}
	return d - 1
}

func at(line, col int) api.Pos    { return api.Pos{Line: line, Col: col} }
func wrap(err error) error        { return fmt.Errorf("odd: %w", err) }
func named(k api.Kind) *faults.At { return &faults.At{Pos: at(8, 8), Name: "f", Named: true, Err: k} }

func TestError(t *testing.T) { // P1.1
	for _, r := range []struct {
		at   *faults.At
		want string
	}{
		{nil, "ok"},
		{&faults.At{}, "0:0"},
		{&faults.At{Pos: at(3, 7)}, "3:7"},
		{&faults.At{Pos: at(-1, 1<<40)}, "-1:1099511627776"},
		{&faults.At{Pos: at(3, 7), Name: "f", Err: api.Typed}, "3:7: typed"},
		{&faults.At{Pos: at(3, 7), Err: api.Kind(99)}, "3:7: kind"},
		{&faults.At{Named: true}, "in "},
		{&faults.At{Pos: at(3, 7), Name: "f", Named: true}, "in f"},
		{named(api.Name), "in f: name"},
		{&faults.At{Name: "g", Named: true, Err: named(api.Name)}, "in g: in f: name"},
		{&faults.At{Pos: at(1, 2), Err: &faults.At{Pos: at(3, 4), Err: errors.New("odd")}}, "1:2: 3:4: odd"},
		{&faults.At{Pos: at(1, 2), Err: wrap(named(api.Loop))}, "1:2: odd: in f: loop"},
		{&faults.At{Pos: at(1, 2), Err: (*faults.At)(nil)}, "1:2: ok"},
		{&faults.At{Pos: at(1, 2), Err: errors.Join(api.Name, api.Loop)}, "1:2: name\nloop"},
	} {
		if got := r.at.Error(); got != r.want {
			t.Errorf("%q, not %q", got, r.want)
		}
	}
}

func TestUnwrap(t *testing.T) { // P1.1
	odd := errors.New("odd")
	if (*faults.At)(nil).Unwrap() != nil || (&faults.At{}).Unwrap() != nil || (&faults.At{Err: odd}).Unwrap() != odd {
		t.Error("Unwrap")
	}
	if !errors.Is(wrap(&faults.At{Err: odd}), odd) {
		t.Error("errors.Is doesn't see through an At")
	}
}

func TestNew(t *testing.T) { // P1.1
	if faults.New(api.OK, at(1, 2)) != nil {
		t.Error("OK")
	}
	for _, k := range []api.Kind{-1, api.Lexic, api.Typed, api.Fault, 13} {
		a, ok := faults.New(k, at(3, 7)).(*faults.At)
		if !ok || *a != (faults.At{Pos: at(3, 7), Err: k}) {
			t.Errorf("New(%d) = %#v", k, a)
		}
	}
}

func TestIn(t *testing.T) { // P1.1
	if faults.In(nil, "f") != nil {
		t.Error("nil")
	}
	for _, err := range []error{api.Typed, api.OK, named(api.Name), (*faults.At)(nil), errors.New("odd")} {
		a, ok := faults.In(err, "g").(*faults.At)
		if !ok || *a != (faults.At{Name: "g", Named: true, Err: err}) {
			t.Errorf("In(%v) = %#v", err, a)
		}
	}
}

func TestKindOfEach(t *testing.T) { // P1.2
	for k := api.Lexic; k <= api.Fault; k++ {
		for i, err := range []error{k, faults.New(k, at(1, 1)), named(k), wrap(wrap(k)), claims{k}, wrap(claims{k}),
			faults.In(wrap(faults.In(k, "f")), "g"), errors.Join(api.Fault, k), errors.Join(k, errors.New("odd")), errors.Join(nil, wrap(errors.Join(k)))} {
			if got := faults.Kind(err); got != k {
				t.Errorf("%d: %v, not %v", i, got, k)
			}
		}
		for low := api.Lexic; low <= k; low++ {
			if faults.Kind(errors.Join(k, low)) != low || faults.Kind(errors.Join(low, named(k))) != low {
				t.Errorf("%v is lower than %v", low, k)
			}
		}
	}
}

func TestKindOfNone(t *testing.T) { // P1.2
	if faults.Kind(nil) != api.OK {
		t.Error("nil")
	}
	for i, err := range []error{errors.New("odd"), api.OK, wrap(api.OK), api.Kind(-1), api.Kind(13), &faults.At{}, (*faults.At)(nil), named(api.OK), claims{api.OK}, errors.Join(errors.New("odd")), several{}, several{nil}, wrapped{}} {
		if got := faults.Kind(err); got != api.Fault {
			t.Errorf("%d: %v", i, got)
		}
	}
}

func TestWhere(t *testing.T) { // P1.2
	err := faults.New(api.Typed, at(3, 7))
	none := (*faults.At)(nil)
	for i, r := range []struct {
		err  error
		want api.Pos
	}{
		{nil, at(0, 0)},
		{api.Typed, at(0, 0)},
		{errors.New("odd"), at(0, 0)},
		{err, at(3, 7)},
		{wrap(wrap(err)), at(3, 7)},
		{faults.In(wrap(faults.In(err, "f")), "g"), at(3, 7)},
		{&faults.At{Pos: at(1, 2), Err: err}, at(1, 2)},
		{&faults.At{Err: err}, at(0, 0)},
		{&faults.At{Pos: at(8, 8), Named: true, Err: err}, at(3, 7)},
		{named(api.Name), at(0, 0)},
		{&faults.At{Pos: at(8, 8), Named: true}, at(0, 0)},
		{none, at(0, 0)},
		{faults.In(wrap(none), "f"), at(0, 0)},
		{&faults.At{Pos: at(1, 2), Err: none}, at(1, 2)},
		{errors.Join(api.Name, err), at(3, 7)},
		{several{wrapped{}, several{}, nil, err}, at(3, 7)},
		{errors.Join(none, err), at(0, 0)},
		{errors.Join(err, none), at(3, 7)},
		{errors.Join(faults.In(none, "f"), err), at(0, 0)},
		{errors.Join(named(api.Name), wrap(err), faults.New(api.Typed, at(1, 1))), at(3, 7)},
		{errors.Join(errors.Join(named(api.Name), wrap(err)), faults.New(api.Typed, at(1, 1))), at(3, 7)},
		{wrap(faults.In(errors.Join(named(api.Name), errors.Join(named(api.Name)), err), "g")), at(3, 7)},
		{errors.Join(faults.In(errors.Join(named(api.Name), err), "g"), faults.New(api.Typed, at(1, 1))), at(3, 7)},
		{faults.In(yields{&faults.At{Pos: at(4, 4)}}, "f"), at(4, 4)},
		{errors.Join(yields{named(api.Name)}, err), at(3, 7)},
		{errors.Join(yields{nil}, err), at(0, 0)},
		{errors.Join(yields{faults.In(err, "f").(*faults.At)}, faults.New(api.Typed, at(1, 1))), at(3, 7)},
	} {
		if got := faults.Where(r.err); got != r.want {
			t.Errorf("%d: %v, not %v", i, got, r.want)
		}
	}
}

func TestTellAndText(t *testing.T) { // P1.2
	err := faults.In(faults.New(api.Typed, at(3, 7)), "f")
	if k, p := faults.Tell(err); k != api.Typed || p != at(3, 7) {
		t.Errorf("Tell: %v at %v", k, p)
	}
	if k, p := faults.Tell(nil); k != api.OK || p != at(0, 0) {
		t.Errorf("Tell of nil: %v at %v", k, p)
	}
	if k, p := faults.Tell(errors.New("odd")); k != api.Fault || p != at(0, 0) {
		t.Errorf("Tell of an odd error: %v at %v", k, p)
	}
	for want, err := range map[string]error{"ok": nil, "in f: 3:7: typed": err, "entry": api.Entry, "odd": errors.New("odd"), "": errors.New("")} {
		if got := faults.Text(err); got != want {
			t.Errorf("%q, not %q", got, want)
		}
	}
	if faults.Text((*faults.At)(nil)) != "ok" {
		t.Error("Text of a nil At")
	}
}

func TestFirst(t *testing.T) { // P1.2
	a, b, c := faults.New(api.Name, at(2, 9)), faults.New(api.Twice, at(2, 3)), faults.New(api.Typed, at(10, 1))
	again, inner, odd := wrap(faults.New(api.Loop, at(2, 3))), faults.In(faults.New(api.Loop, at(1, 50)), "f"), errors.New("odd")
	for i, r := range []struct {
		l    []error
		want error
	}{
		{nil, nil},
		{[]error{nil, nil}, nil},
		{[]error{nil, a, nil}, a},
		{[]error{nil, a, b}, b},
		{[]error{b, a}, b},
		{[]error{c, a}, a},
		{[]error{a, b, again}, b},
		{[]error{a, again, b}, again},
		{[]error{a, b, inner, c}, inner},
		{[]error{a, odd, b, api.Entry}, odd},
	} {
		kept := slices.Clone(r.l)
		if got := faults.First(r.l...); got != r.want {
			t.Errorf("%d: %v, not %v", i, got, r.want)
		}
		if !slices.Equal(kept, r.l) {
			t.Errorf("%d: the list was changed", i)
		}
	}
}

func TestLoops(t *testing.T) { // P1
	chain := &faults.At{Named: true, Name: "f"}
	chain.Err = faults.In(chain, "g")
	within := &faults.At{Pos: at(1, 2)}
	within.Err = wrap(within)
	list := &faults.At{Named: true, Name: "f"}
	list.Err = errors.Join(errors.New("odd"), list)
	all := &faults.At{Named: true, Name: "f"}
	all.Err = errors.Join(all, wrap(all), faults.In(all, "g"), faults.New(api.Typed, at(5, 6)))
	long := &faults.At{Named: true, Name: "f"}
	back := long
	for range 1000 {
		back = &faults.At{Named: true, Name: "g", Err: back}
	}
	long.Err = back
	slice := make(several, 2)
	slice[0], slice[1] = slice, faults.New(api.Clock, at(7, 8))
	name := faults.New(api.Name, at(5, 6))
	for i, r := range []struct {
		err  error
		kind api.Kind
		want api.Pos
		text string
	}{
		{chain, api.Fault, at(0, 0), "in f"},
		{faults.In(chain, "h"), api.Fault, at(0, 0), "in h"},
		{within, api.Fault, at(1, 2), "1:2"},
		{list, api.Fault, at(0, 0), "in f"},
		{faults.In(errors.Join(api.Loop, list), "h"), api.Loop, at(0, 0), "in h: loop\nin f"},
		{all, api.Typed, at(5, 6), "in f"},
		{long, api.Fault, at(0, 0), "in f"},
		{slice, api.Clock, at(7, 8), "several"},
		{errors.Join(name, chain), api.Name, at(5, 6), "5:6: name\nin f"},
		{errors.Join(chain, name), api.Name, at(5, 6), "in f\n5:6: name"},
		{errors.Join((*faults.At)(nil), name, chain), api.Name, at(0, 0), "ok\n5:6: name\nin f"},
	} {
		if k, p := faults.Tell(r.err); k != r.kind || p != r.want {
			t.Errorf("%d: %v at %v, not %v at %v", i, k, p, r.kind, r.want)
		}
		if s := faults.Text(r.err); s != r.text {
			t.Errorf("%d: %q, not %q", i, s, r.text)
		}
		if faults.First(nil, r.err) == nil {
			t.Errorf("%d: not the first", i)
		}
	}
}

func TestLoopsElsewhere(t *testing.T) { // P1
	if k := faults.Kind(errors.Join(ring{}, api.Name)); k != api.Name {
		t.Errorf("%v", k)
	}
	if p := faults.Where(ring{}); p != at(0, 0) {
		t.Errorf("at %v", p)
	}
	if s := faults.Text(&faults.At{Pos: at(3, 4), Err: ring{}}); s != "3:4: ring" {
		t.Errorf("%q", s)
	}
	again := &pair{b: faults.New(api.Typed, at(3, 7))}
	again.a = again
	if k := faults.Kind(again); k != api.Typed {
		t.Errorf("a list made anew: %v", k)
	}
}

// An error that is reached in more ways than can be gone is told as one that is reached once.
func TestManyWays(t *testing.T) { // P1.2
	low, high := faults.New(api.Cause, at(9, 9)), faults.New(api.Typed, at(3, 7))
	for i, twice := range []func(err error) error{
		func(err error) error { return errors.Join(err, err) },
		func(err error) error { return errors.Join(faults.In(err, "f"), wrapped{err}) },
		func(err error) error { return several{err, err} },
		func(err error) error { return wrapped{several{faults.In(err, "f"), nil, err}} },
		func(err error) error { return &pair{err, faults.In(err, "f")} },
	} {
		err := high
		for range 60 {
			err = twice(err)
		}
		for _, r := range []struct {
			err  error
			kind api.Kind
			want api.Pos
		}{{err, api.Typed, at(3, 7)}, {errors.Join(err, low, err), api.Typed, at(3, 7)}, {errors.Join(low, err), api.Typed, at(9, 9)}} {
			if k := faults.Kind(r.err); k != r.kind {
				t.Errorf("%d: %v, not %v", i, k, r.kind)
			}
			if p := faults.Where(r.err); p != r.want {
				t.Errorf("%d: at %v, not %v", i, p, r.want)
			}
		}
	}
}

// What lies behind all those ways is found as well.
func TestBehindManyWays(t *testing.T) { // P1.2
	err := error(named(api.Typed))
	for range 60 {
		err = errors.Join(err, faults.In(err, "f"))
	}
	err = errors.Join(err, faults.New(api.Loop, at(3, 7)), faults.New(api.Lexic, at(4, 1)))
	if k, p := faults.Tell(err); k != api.Lexic || p != at(3, 7) {
		t.Errorf("%v at %v", k, p)
	}
	shared := err
	for range 100000 {
		shared = faults.In(shared, "f")
	}
	l := make([]error, 100000)
	for i := range l {
		l[i] = faults.In(shared, "g")
	}
	if k, p := faults.Tell(errors.Join(l...)); k != api.Lexic || p != at(3, 7) {
		t.Errorf("shared: %v at %v", k, p)
	}
}

// However often an error is wrapped, it is found.
func TestFarDown(t *testing.T) { // P1.1, P1.2
	for i, r := range []struct {
		n, text int
		wrap    func(err error) error
	}{
		{1<<22 + 1<<20, len("in f: ")*(1<<22+1<<20) + len("3:7: cause"), func(err error) error { return faults.In(err, "f") }},
		{1<<22 + 1<<20, len("wrapped"), func(err error) error { return wrapped{err} }},
		{1 << 18, len("several"), func(err error) error { return several{nil, err} }},
		{1 << 18, len("several"), func(err error) error { return several{api.Entry, wrapped{faults.In(err, "f")}} }},
	} {
		err := faults.New(api.Cause, at(3, 7))
		for range r.n {
			err = r.wrap(err)
		}
		if k, p := faults.Tell(err); k != api.Cause || p != at(3, 7) {
			t.Errorf("%d: %v at %v", i, k, p)
		}
		if s := faults.Text(err); len(s) != r.text {
			t.Errorf("%d: %d bytes, not %d", i, len(s), r.text)
		}
	}
	if k := faults.Kind(down(1<<27 + 1<<24)); k != api.Cause {
		t.Errorf("made on the way: %v", k)
	}
}

func TestPanics(t *testing.T) { // P1
	none := (*broken)(nil)
	for i, err := range []error{none, faults.In(none, "f"), errors.Join(none, errors.New("odd"))} {
		if k := faults.Kind(err); k != api.Fault {
			t.Errorf("%d: %v", i, k)
		}
		if p := faults.Where(err); p != at(0, 0) {
			t.Errorf("%d: at %v", i, p)
		}
		if faults.First(err) != err {
			t.Errorf("%d: not the first", i)
		}
	}
	for i, err := range []error{errors.Join(api.Name, none), errors.Join(none, api.Name), errors.Join(several{none, none}, wrap(faults.In(api.Name, "f")), none)} {
		if k := faults.Kind(err); k != api.Name {
			t.Errorf("%d: %v beside what panics", i, k)
		}
	}
	if p := faults.Where(errors.Join(none, faults.New(api.Name, at(3, 7)))); p != at(3, 7) {
		t.Errorf("at %v beside what panics", p)
	}
	if faults.Text(none) != "" || faults.Text(faults.In(none, "f")) != "in f: " {
		t.Errorf("%q, %q", faults.Text(none), faults.Text(faults.In(none, "f")))
	}
}

func TestAgain(t *testing.T) { // P2
	err := wrap(errors.Join(named(api.Name), faults.In(faults.New(api.Typed, at(3, 7)), "f")))
	k, p, s := faults.Kind(err), faults.Where(err), faults.Text(err)
	for range 3 {
		faults.First(err, faults.New(api.Lexic, at(1, 1)), nil)
		if k2, p2 := faults.Tell(err); k2 != k || p2 != p || faults.Text(err) != s {
			t.Errorf("%v at %v, then %v at %v", k, p, k2, p2)
		}
	}
}
