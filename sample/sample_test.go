package sample_test

import (
	"testing"

	"metronome/api"
	"metronome/clocks"
	"metronome/inits"
	"metronome/names"
	"metronome/parse"
	"metronome/sample"
	"metronome/show"
	"metronome/tree"
	"metronome/types"
)

func TestValid(t *testing.T) {
	for i := range uint64(600) {
		p := sample.Program(i)
		s := show.Program(p)
		q, err := parse.Program(s)
		if err != nil || !tree.Same(p, q) {
			t.Fatalf("%d: %v\n%s", i, err, s)
		}
		for _, check := range []func(api.Program) error{names.Check, types.Check, clocks.Check, inits.Check} {
			if err := check(q); err != nil {
				t.Fatalf("%d: %v\n%s", i, err, s)
			}
		}
		if !tree.Same(p, sample.Program(i)) || tree.Same(p, sample.Program(i+1)) {
			t.Fatalf("%d: not the same for the same number alone", i)
		}
	}
}

// TestAll: there is something of every kind.
func TestAll(t *testing.T) {
	var eqs [api.QReset + 1]int
	var exprs [api.EMerge + 1]int
	clocks, lasts := 0, 0
	for i := range uint64(100) {
		for _, n := range sample.Program(i).Nodes {
			var block func(b api.Block)
			block = func(b api.Block) {
				for _, v := range b.Vars {
					clocks += len(v.Clock)
					if v.Last {
						lasts++
					}
				}
				for _, q := range b.Eqs {
					eqs[q.Kind]++
					var expr func(e api.Expr)
					expr = func(e api.Expr) {
						exprs[e.Kind]++
						for _, k := range e.Kids {
							expr(k)
						}
					}
					expr(q.E)
					for _, a := range q.Arms {
						block(a.B)
					}
				}
			}
			block(n.B)
		}
	}
	for k := api.QDef; k <= api.QReset; k++ {
		if eqs[k] < 50 {
			t.Errorf("%d equations of kind %d", eqs[k], k)
		}
	}
	for k := api.EInt; k <= api.EMerge; k++ {
		if exprs[k] < 50 {
			t.Errorf("%d expressions of kind %d", exprs[k], k)
		}
	}
	if clocks < 50 || lasts < 50 {
		t.Errorf("%d samplings, %d last values", clocks, lasts)
	}
}
