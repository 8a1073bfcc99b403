package faults

import "math"

// walk goes through all that an error is or wraps, in the order of errors.Is and errors.As. But these go every way that leads to an error, and of errors that wrap several which wrap several there can be more ways than can be gone, or ways that come round: a walk leaves what it was at already.
type walk struct {
	rest  []error          // what is still to be gone through, the next one last
	met   map[any]struct{} // what it knows that it was at: Ats, lists, and what wraps lists
	ats   int              // how many Ats were entered
	lists int              // how many lists
	row   int              // how many errors from elsewhere in a row, each of which wraps the next
	kept  error            // one of that row
	left  int              // how much more it takes
}

// place is where a list lies: what wraps it may be beyond comparing.
type place struct {
	first *error
	n     int
}

const (
	// sparse: one At of so many is kept in mind. A row of Ats that is come upon again is soon left all the same.
	sparse = 64
	// few: up to so many lists, it costs less to go through one again than to keep all in mind.
	few = 1 << 16
	// many: from so many lists on, what wraps them is compared too: it may make its list anew whenever it is asked. Not earlier, since to compare two values is to compare all that they hold, one in the other.
	many = 1 << 23
	// far: a row of so many errors from elsewhere may be one that comes round, and is compared. Not earlier, for the same reason; a row of so many values, each in the other, fills more than 2^31 - 1 bytes.
	far = 1 << 27
	// width is how many bytes an error takes in a list.
	width = 16
)

func begin(err error) *walk {
	w := &walk{met: map[any]struct{}{}, left: math.MaxInt32}
	w.add(err)
	return w
}

// each hands over one error after the other; visit enters those behind which the walk shall go on.
func (w *walk) each(visit func(error)) {
	for w.goesOn() {
		// A panic ends the one way on which it happens.
		safely(func() {
			for w.goesOn() {
				last := len(w.rest) - 1
				err := w.rest[last]
				w.rest = w.rest[:last]
				w.left--
				visit(err)
			}
		})
	}
}

func (w *walk) goesOn() bool {
	return len(w.rest) > 0 && w.left > 0
}

func (w *walk) stop() {
	w.rest = nil
}

func (w *walk) add(err error) {
	if err != nil {
		w.rest = append(w.rest, err)
	}
}

// enter lays what err wraps ahead of all that is still to be gone through.
func (w *walk) enter(err error) {
	switch x := err.(type) {
	case *At:
		w.row = 0
		w.enterAt(x)
	case interface{ Unwrap() error }:
		if next := x.Unwrap(); !w.round(next) {
			w.add(next)
		}
	case interface{ Unwrap() []error }:
		w.row = 0
		w.enterList(err, x.Unwrap())
	default:
		w.row = 0
	}
}

func (w *walk) enterAt(a *At) {
	if _, found := w.met[a]; found || a == nil {
		return
	}
	w.ats++
	if w.ats%sparse == 0 {
		w.met[a] = struct{}{}
	}
	w.add(a.Err)
}

func (w *walk) enterList(err error, l []error) {
	if len(l) == 0 {
		return
	}
	w.lists++
	w.left -= width * len(l)
	if w.lists > few && w.again(place{&l[0], len(l)}) || w.lists > many && w.again(err) {
		return
	}
	for i := range l {
		w.add(l[len(l)-1-i])
	}
}

// again reports whether the walk was at something already; of what can't be compared it can't know.
func (w *walk) again(what any) (found bool) {
	safely(func() {
		_, found = w.met[what]
		w.met[what] = struct{}{}
	})
	return found
}

// round reports whether err, the next one of a row, stood in that row already. It is compared with the one that the row had when it was last as long as a power of 2.
func (w *walk) round(err error) (found bool) {
	w.row++
	if w.row < far {
		return false
	}
	if w.row&(w.row-1) == 0 {
		w.kept = err
		return false
	}
	kept := w.kept
	w.kept = nil // for good, if it can't be compared
	safely(func() { found, w.kept = err == kept, kept })
	return found
}

// alone is an error without what it wraps, so that errors.Is and errors.As ask that error and no other.
type alone struct{ err error }

func (l alone) Error() string { return l.err.Error() }

func (l alone) Is(target error) bool {
	if x, ok := l.err.(interface{ Is(error) bool }); ok && x.Is(target) {
		return true
	}
	return l.err == target
}

func (l alone) As(target any) bool {
	if x, ok := l.err.(interface{ As(any) bool }); ok {
		return x.As(target)
	}
	return false
}
