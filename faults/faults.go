// Package faults is layer 1: see shared/doc/01-faults.md.
package faults

import (
	"cmp"
	"errors"
	"strconv"
	"strings"

	"metronome/api"
)

// At is an error at a place of a text; or, if it is named, within what has that name.
type At struct {
	Pos   api.Pos
	Name  string
	Named bool
	Err   error
}

// most is how many errors one may wrap. An At can be made to wrap itself, and would be followed for ever; no honest error comes near that many.
const most = 1 << 22

// Error: the place, or the name, and what is wrong there.
func (a *At) Error() string {
	if a == nil {
		return "ok"
	}
	parts := []string{a.head()}
	if !finite(a) {
		return parts[0]
	}
	for a.Err != nil {
		next, _ := itself(a.Err)
		if next == nil {
			parts = append(parts, Text(a.Err))
			break
		}
		parts = append(parts, next.head())
		a = next
	}
	return strings.Join(parts, ": ")
}

// Unwrap: what is wrong there.
func (a *At) Unwrap() error {
	if a == nil {
		return nil
	}
	return a.Err
}

// New: what is wrong at a place; OK: nothing is.
func New(k api.Kind, p api.Pos) error {
	if k == api.OK {
		return nil
	}
	return &At{Pos: p, Err: k}
}

// In: an error within a node, or a block, that has a name; nothing, if there is none.
func In(err error, name string) error {
	if err == nil {
		return nil
	}
	return &At{Name: name, Named: true, Err: err}
}

// Kind: what is wrong, whatever is wrapped about it; Fault, if it is nothing of these.
func Kind(err error) api.Kind {
	if err == nil {
		return api.OK
	}
	if !finite(err) {
		return api.Fault
	}
	for k := api.Lexic; k < api.Fault; k++ {
		if is(err, k) {
			return k
		}
	}
	return api.Fault
}

// Where: the place of an error, whatever is wrapped about it; none, if it has none.
func Where(err error) (p api.Pos) {
	ends := finite(err)
	safely(func() { p = place(err, ends) })
	return p
}

// Tell: what is wrong, and where.
func Tell(err error) (api.Kind, api.Pos) {
	return Kind(err), Where(err)
}

// Text: an error as a line.
func Text(err error) (s string) {
	if err == nil {
		return "ok"
	}
	safely(func() { s = err.Error() })
	return s
}

// First: the one of some errors that stands first: of the least place, of several the first.
func First(l ...error) error {
	var first error
	var least api.Pos
	for _, err := range l {
		if err == nil {
			continue
		}
		if p := Where(err); first == nil || compare(p, least) < 0 {
			first, least = err, p
		}
	}
	return first
}

func compare(a, b api.Pos) int {
	return cmp.Or(cmp.Compare(a.Line, b.Line), cmp.Compare(a.Col, b.Col))
}

// head is the text of an At without that of its Err.
func (a *At) head() string {
	if a.Named {
		return "in " + a.Name
	}
	return strconv.Itoa(a.Pos.Line) + ":" + strconv.Itoa(a.Pos.Col)
}

// itself is err as an *At, whatever it wraps.
func itself(err error) (*At, bool) {
	a, found := err.(*At)
	return a, found
}

// look finds the first *At that err is or wraps; where that search might not end, it looks at err alone.
func look(err error, ends bool) (*At, bool) {
	if !ends {
		return itself(err)
	}
	var a *At
	found := errors.As(err, &a)
	return a, found
}

func is(err error, k api.Kind) (found bool) {
	safely(func() { found = errors.Is(err, k) })
	return found
}

// place goes on behind each named At, in the order of errors.As: an error may wrap several, and the At that counts may stand beside the first one.
func place(err error, ends bool) api.Pos {
	rest := []error{err}
	for n := 0; len(rest) > 0 && n < most; n++ {
		e := rest[len(rest)-1]
		rest = rest[:len(rest)-1]
		a, found := look(e, ends)
		if found && a == nil {
			return api.Pos{}
		}
		if found && !a.Named {
			return a.Pos
		}
		if found || !ends {
			rest = push(rest, e)
		}
	}
	return api.Pos{}
}

// finite reports whether going through all that err wraps comes to an end: else errors.Is would not.
func finite(err error) bool {
	rest := []error{err}
	for range most {
		if len(rest) == 0 {
			return true
		}
		e := rest[len(rest)-1]
		rest = push(rest[:len(rest)-1], e)
	}
	return false
}

// push lays what err wraps directly on a stack, the first on top.
func push(rest []error, err error) []error {
	safely(func() {
		if e := errors.Unwrap(err); e != nil {
			rest = append(rest, e)
			return
		}
		// What wraps no single error has nothing below it but its own list, so As finds no other's.
		var several interface{ Unwrap() []error }
		if errors.As(err, &several) {
			l := several.Unwrap()
			for i := range l {
				rest = append(rest, l[len(l)-1-i])
			}
		}
	})
	return rest
}

// safely runs f up to its end or to a panic: the methods of errors from elsewhere may panic, for example those of a nil pointer.
func safely(f func()) {
	defer func() { _ = recover() }()
	f()
}
