package deps_test

import (
	"slices"
	"testing"

	"metronome/deps"
)

// dice are numbers that look thrown, the same in each run.
type dice uint64

func (d *dice) throw(n int) int {
	*d = *d*6364136223846793005 + 1442695040888963407
	return int(*d>>33) % n
}

// order chooses each time the first thing whose needs are all there.
func order(needs [][]int) []int {
	l := []int{}
	for len(l) < len(needs) {
		i := 0
		for i < len(needs) && (slices.Contains(l, i) || slices.ContainsFunc(needs[i], func(j int) bool { return !slices.Contains(l, j) })) {
			i++
		}
		if i == len(needs) {
			return nil
		}
		l = append(l, i)
	}
	return l
}

// looped tries all ways from each thing.
func looped(needs [][]int) int {
	for i := range needs {
		seen := map[int]bool{}
		todo := slices.Clone(needs[i])
		for len(todo) > 0 {
			j := todo[0]
			todo = todo[1:]
			if j == i {
				return i
			}
			if !seen[j] {
				seen[j] = true
				todo = append(todo, needs[j]...)
			}
		}
	}
	return -1
}

func TestByChance(t *testing.T) {
	orders, loops := 0, map[int]int{}
	for i := range 60000 {
		d := dice(i)
		needs := make([][]int, d.throw(9))
		for j := range needs {
			for range d.throw(1 + d.throw(4)) {
				needs[j] = append(needs[j], d.throw(len(needs)))
			}
		}
		want := order(needs)
		got, ok := deps.Order(needs)
		if ok != (want != nil) || !slices.Equal(got, want) {
			t.Fatalf("%v: %v, %v, not %v", needs, got, ok, want)
		}
		first := deps.Looped(needs)
		if first != looped(needs) {
			t.Fatalf("%v: %d needs itself, not %d", needs, first, looped(needs))
		}
		if ok {
			orders++
		}
		loops[first]++
	}
	if orders < 10000 || loops[0] < 100 || loops[7] < 10 {
		t.Errorf("%d orders, loops from %v", orders, loops)
	}
}

func TestLong(t *testing.T) { // one behind the other, with a loop at the end
	const many = 1000000
	needs := make([][]int, many)
	for i := range many - 1 {
		needs[i] = []int{i + 1}
	}
	if l, ok := deps.Order(needs); !ok || len(l) != many || l[0] != many-1 || l[many-1] != 0 {
		t.Errorf("%d in order, %v", len(l), ok)
	}
	if i := deps.Looped(needs); i != -1 {
		t.Errorf("%d needs itself", i)
	}
	needs[many-1] = []int{many - 1000}
	if _, ok := deps.Order(needs); ok {
		t.Error("an order in spite of a loop")
	}
	if i := deps.Looped(needs); i != many-1000 {
		t.Errorf("%d needs itself", i)
	}
}
