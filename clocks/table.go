package clocks

import "metronome/api"

// clock is the place of a clock in a table.
type clock int

// base is the place of the base clock in each table.
const base clock = 0

// sampling is a clock that is not the base clock: its last sampling, and what remains without it.
type sampling struct {
	outer clock
	on    api.On
}

// table is clocks, each of them once: whether two are one can be told at once, however long they are.
type table struct {
	list   []sampling // the first one has the place 1
	places map[sampling]clock
}

// under is the clock that a sampling makes of another one.
func (t *table) under(outer clock, on api.On) clock {
	s := sampling{outer, on}
	ck, ok := t.places[s]
	if !ok {
		t.list = append(t.list, s)
		ck = clock(len(t.list))
		t.places[s] = ck
	}
	return ck
}

// of is the place of a clock.
func (t *table) of(l []api.On) clock {
	ck := base
	for _, on := range l {
		ck = t.under(ck, on)
	}
	return ck
}

// split takes the last sampling off a clock; false: it has none.
func (t *table) split(ck clock) (sampling, bool) {
	if ck == base {
		return sampling{}, false
	}
	return t.list[ck-1], true
}
