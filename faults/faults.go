// Package faults is layer 1: see shared/doc/01-faults.md.
package faults

import (
	"cmp"
	"errors"
	"strconv"
	"strings"

	"metronome/api"
)

// At is an error at a place of a text; or, if it is named, within what has that name.
type At struct {
	Pos   api.Pos
	Name  string
	Named bool
	Err   error
}

// Error: the place, or the name, and what is wrong there.
func (a *At) Error() string {
	if a == nil {
		return "ok"
	}
	head := a.head()
	// An At that comes back to itself would be told for ever: its own place has to do.
	if last := a.last(); last == nil || reaches(last.Err, last) {
		return head
	}
	var b strings.Builder
	b.WriteString(head)
	for a.Err != nil {
		b.WriteString(": ")
		next, _ := itself(a.Err)
		if next == nil {
			b.WriteString(Text(a.Err))
			break
		}
		b.WriteString(next.head())
		a = next
	}
	return b.String()
}

// Unwrap: what is wrong there.
func (a *At) Unwrap() error {
	if a == nil {
		return nil
	}
	return a.Err
}

// New: what is wrong at a place; OK: nothing is.
func New(k api.Kind, p api.Pos) error {
	if k == api.OK {
		return nil
	}
	return &At{Pos: p, Err: k}
}

// In: an error within a node, or a block, that has a name; nothing, if there is none.
func In(err error, name string) error {
	if err == nil {
		return nil
	}
	return &At{Name: name, Named: true, Err: err}
}

// Kind: what is wrong, whatever is wrapped about it; Fault, if it is nothing of these.
func Kind(err error) api.Kind {
	if err == nil {
		return api.OK
	}
	lowest := api.Fault
	w := begin(err)
	w.each(func(e error) {
		lowest = lower(e, lowest)
		w.enter(e)
	})
	return lowest
}

// Where: the place of an error, whatever is wrapped about it; none, if it has none.
func Where(err error) (p api.Pos) {
	w := begin(err)
	w.each(func(e error) {
		a, found := at(e)
		if found && a == nil {
			w.stop()
			return
		}
		if found && !a.Named {
			p = a.Pos
			w.stop()
			return
		}
		w.enter(e)
		if found && !equal(e, a) {
			w.enter(a)
		}
	})
	return p
}

// Tell: what is wrong, and where.
func Tell(err error) (api.Kind, api.Pos) {
	return Kind(err), Where(err)
}

// Text: an error as a line.
func Text(err error) (s string) {
	if err == nil {
		return "ok"
	}
	safely(func() { s = err.Error() })
	return s
}

// First: the one of some errors that stands first: of the least place, of several the first.
func First(l ...error) error {
	var first error
	var least api.Pos
	for _, err := range l {
		if err == nil {
			continue
		}
		if p := Where(err); first == nil || compare(p, least) < 0 {
			first, least = err, p
		}
	}
	return first
}

func compare(a, b api.Pos) int {
	return cmp.Or(cmp.Compare(a.Line, b.Line), cmp.Compare(a.Col, b.Col))
}

// head is the text of an At without that of its Err.
func (a *At) head() string {
	if a.Named {
		return "in " + a.Name
	}
	return strconv.Itoa(a.Pos.Line) + ":" + strconv.Itoa(a.Pos.Col)
}

// itself is err as an *At, whatever it wraps.
func itself(err error) (*At, bool) {
	a, found := err.(*At)
	return a, found
}

// last is the last of the Ats in a row that a begins; nil, if the row goes round. To find that out it keeps one At of the row, and a later one each time the row has become twice as long.
func (a *At) last() *At {
	kept := a
	for n := 1; ; n++ {
		next, _ := itself(a.Err)
		if next == nil {
			return a
		}
		if next == kept {
			return nil
		}
		if n&(n-1) == 0 {
			kept = next
		}
		a = next
	}
}

// reaches reports whether a is among what err is or wraps.
func reaches(err error, a *At) (found bool) {
	w := begin(err)
	w.each(func(e error) {
		if found = equal(e, a); found {
			w.stop()
			return
		}
		w.enter(e)
	})
	return found
}

// equal reports whether err is a itself.
func equal(err error, a *At) bool {
	b, found := itself(err)
	return found && a == b
}

// lower is the lowest kind below k that err is, whatever it wraps; k, if it is none of them.
func lower(err error, k api.Kind) api.Kind {
	switch err.(type) {
	case api.Kind, interface{ Is(error) bool }:
		for low := api.Lexic; low < k; low++ {
			if errors.Is(alone{err}, low) {
				return low
			}
		}
	}
	return k
}

// at is the *At that err is, or gives itself out for, whatever it wraps.
func at(err error) (a *At, found bool) {
	switch err.(type) {
	case *At:
		return itself(err)
	case interface{ As(any) bool }:
		found = errors.As(alone{err}, &a)
	}
	return a, found
}

// safely runs f up to its end or to a panic: the methods of errors from elsewhere may panic, for example those of a nil pointer.
func safely(f func()) {
	defer func() { _ = recover() }()
	f()
}
