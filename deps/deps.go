// Package deps is about things that need each other: of each, by its index, the list of the indices of those that it needs.
package deps

import (
	"container/heap"
	"slices"
	"sort"
)

// ready are the indices that can come next.
type ready struct{ sort.IntSlice }

func (r *ready) Push(x any) { r.IntSlice = append(r.IntSlice, x.(int)) }

func (r *ready) Pop() any {
	last := len(r.IntSlice) - 1
	x := r.IntSlice[last]
	r.IntSlice = r.IntSlice[:last]
	return x
}

// Order is all things, each behind those that it needs; of those that can come next, the first one each time. It is false, if there is no such order.
func Order(needs [][]int) ([]int, bool) {
	left := make([]int, len(needs)) // of each thing, how many of its needs are not in the order yet
	users := make([][]int, len(needs))
	var next ready
	for i, l := range needs {
		left[i] = len(l)
		for _, j := range l {
			users[j] = append(users[j], i)
		}
		if len(l) == 0 {
			next.IntSlice = append(next.IntSlice, i)
		}
	}
	order := make([]int, 0, len(needs))
	for next.Len() > 0 {
		i := heap.Pop(&next).(int)
		order = append(order, i)
		for _, j := range users[i] {
			left[j]--
			if left[j] == 0 {
				heap.Push(&next, j)
			}
		}
	}
	if len(order) < len(needs) {
		return nil, false
	}
	return order, true
}

// Looped is the first thing that needs itself, directly or through others; -1, if there is none.
func Looped(needs [][]int) int {
	s := search{needs: needs, met: make([]int, len(needs)), least: make([]int, len(needs)), first: -1}
	for i := range needs {
		if s.met[i] == 0 {
			s.from(i)
		}
	}
	return s.first
}

// search is Tarjan's: it finds the groups of things in which each needs each.
type search struct {
	needs [][]int
	met   []int  // of each thing, as which one it was met, from 1 on; 0: not yet
	count int    // how many have been met
	least []int  // the least met of a thing that is not grouped yet and is needed by this one
	wait  []int  // what is met, and not grouped yet
	way   []step // from where the search began to where it is; a slice, since ways can be long
	first int    // the first thing found so far that needs itself
}

// step is a thing, and how many of its needs have been followed.
type step struct{ thing, next int }

func (s *search) meet(i int) {
	s.count++
	s.met[i], s.least[i] = s.count, s.count
	s.wait = append(s.wait, i)
	s.way = append(s.way, step{thing: i})
}

// from searches all that a thing needs.
func (s *search) from(i int) {
	s.meet(i)
	for len(s.way) > 0 {
		top := &s.way[len(s.way)-1]
		if top.next < len(s.needs[top.thing]) {
			j := s.needs[top.thing][top.next]
			top.next++
			s.follow(top.thing, j)
			continue
		}
		s.leave(top.thing)
	}
}

// follow is called for each need j of a thing i.
func (s *search) follow(i, j int) {
	switch {
	case s.met[j] == 0:
		s.meet(j)
	case s.least[j] < grouped:
		s.least[i] = min(s.least[i], s.met[j])
	}
}

// grouped is more than any count: what is grouped no longer lowers the least of others.
const grouped = int(^uint(0) >> 1)

// leave is called for a thing when all its needs have been followed.
func (s *search) leave(i int) {
	s.way = s.way[:len(s.way)-1]
	if s.least[i] == s.met[i] {
		s.group(i)
	} else {
		above := s.way[len(s.way)-1].thing
		s.least[above] = min(s.least[above], s.least[i])
	}
}

// group takes from what waits the things met from i on: each of them needs each other one.
func (s *search) group(i int) {
	at := len(s.wait) - 1
	for s.wait[at] != i {
		at--
	}
	group := s.wait[at:]
	s.wait = s.wait[:at]
	for _, j := range group {
		s.least[j] = grouped
	}
	if len(group) > 1 || slices.Contains(s.needs[i], i) {
		if low := slices.Min(group); s.first < 0 || low < s.first {
			s.first = low
		}
	}
}
