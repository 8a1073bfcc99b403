package types_test

import (
	"slices"
	"testing"

	"metronome/api"
	"metronome/faults"
	"metronome/names"
	"metronome/parse"
	"metronome/sample"
	"metronome/show"
	"metronome/tree"
	"metronome/types"
)

// spoil changes something by chance.
func spoil(d *sample.Dice, p *api.Program, l *sample.Parts) {
	switch e := sample.Some(d, l.Exprs); d.Below(9) {
	case 0:
		at := e.At
		*e = sample.Clone(*sample.Some(d, l.Exprs))
		e.At = at
	case 1:
		sample.Some(d, l.Vars).T = sample.Some(d, l.Vars).T
	case 2:
		e.Op = sample.Some(d, l.Exprs).Op
		if len(e.Names) > 0 {
			e.Names = slices.Clone(e.Names)
			e.Names[d.Below(len(e.Names))] = sample.Some(d, sample.Ctors(p))
		}
	case 3:
		*e = api.Expr{Kind: sample.Some(d, []byte{api.EPre, api.EArrow, api.EFby}), Kids: []api.Expr{*e, tree.Int(0)}, At: e.At}
		if e.Kind == api.EPre {
			e.Kids = e.Kids[:1]
		}
	case 4:
		e.Name = sample.Some(d, l.Vars).Name
	case 5:
		if len(l.Clocks) > 0 {
			*sample.Some(d, l.Clocks) = api.On{Ctor: sample.Some(d, sample.Ctors(p)), Var: sample.Some(d, l.Vars).Name}
		}
	case 6:
		v := sample.Some(d, l.Vars)
		v.Clock = append(slices.Clone(v.Clock), api.On{Ctor: sample.Some(d, sample.Ctors(p)), Var: sample.Some(d, l.Vars).Name})
	case 7:
		if len(l.Switches) > 0 {
			if q := sample.Some(d, l.Switches); len(q.Arms) > 0 {
				arms(d, p, q)
			}
		}
	case 8:
		equation(d, l, sample.Some(d, l.Eqs))
	}
}

// arms changes the arms of a switch.
func arms(d *sample.Dice, p *api.Program, q *api.Equation) {
	i := d.Below(len(q.Arms))
	switch d.Below(3) {
	case 0:
		q.Arms = slices.Delete(slices.Clone(q.Arms), i, i+1)
	case 1:
		q.Arms[i].Name = sample.Some(d, sample.Ctors(p))
	case 2:
		a := q.Arms[i]
		a.Name, a.At.Col = sample.Some(d, sample.Ctors(p)), 2
		q.Arms = slices.Insert(slices.Clone(q.Arms), d.Below(len(q.Arms)+1), a)
	}
}

// equation changes a call.
func equation(d *sample.Dice, l *sample.Parts, q *api.Equation) {
	if q.Kind != api.QCall {
		return
	}
	switch d.Below(4) {
	case 0:
		q.Args = append(slices.Clone(q.Args), sample.Clone(*sample.Some(d, l.Exprs)))
	case 1:
		q.Args = q.Args[:len(q.Args)/2]
	case 2:
		q.Has, q.E = true, sample.Clone(*sample.Some(d, l.Exprs))
	case 3:
		q.Lhs = slices.Clone(q.Lhs)
		i, j := d.Below(len(q.Lhs)), d.Below(len(q.Lhs))
		q.Lhs[i], q.Lhs[j] = q.Lhs[j], q.Lhs[i]
	}
}

func TestSpoilt(t *testing.T) { // P8.2: programs in which something is changed
	var found [13]int
	for i := range 8000 {
		d := sample.Dice(i)
		p, err := parse.Program(show.Program(sample.Program(uint64(i % 1500))))
		if err != nil {
			t.Fatal(err)
		}
		l := sample.Apart(&p)
		if err := types.Check(p); err != nil {
			t.Fatalf("%s: %v", show.Program(p), err)
		}
		for range 1 + d.Below(2) {
			spoil(&d, &p, l)
		}
		if names.Check(p) != nil {
			continue
		}
		err, want := types.Check(p), check(p)
		if faults.Text(err) != faults.Text(want) {
			t.Fatalf("%s: %v, not %v", show.Program(p), err, want)
		}
		found[faults.Kind(err)]++
	}
	if found[api.OK] < 500 || found[api.Typed] < 500 {
		t.Errorf("%d right, %d not", found[api.OK], found[api.Typed])
	}
}

// small makes an expression of any kind, with kids that are no deeper than that.
func small(d *sample.Dice, deep int) api.Expr {
	e := api.Expr{Kind: 1 + byte(d.Below(int(api.ELast))), N: int32(d.Below(2))}
	if deep > 0 {
		e.Kind = 1 + byte(d.Below(int(api.EMerge)))
	}
	kids := [api.EMerge + 1]int{api.EUn: 1, api.EBin: 2, api.EIf: 3, api.EFby: 2, api.EPre: 1, api.EArrow: 2, api.EWhen: 1, api.EMerge: 2}[e.Kind]
	switch e.Kind {
	case api.ECtor:
		e.Name = sample.Some(d, []string{"Red", "One"})
	case api.EVar:
		e.Name = sample.Some(d, env).Name
	case api.ELast:
		e.Name = sample.Some(d, []string{"x", "y"})
	case api.EUn:
		e.Op = sample.Some(d, []byte{api.Not, api.Neg})
	case api.EBin:
		e.Op = api.Add + byte(d.Below(int(api.Ge-api.Add)+1))
	case api.EWhen:
		e.Name, e.Names = sample.Some(d, []string{"b", "c"}), []string{sample.Some(d, []string{"true", "false", "Red"})}
	case api.EMerge:
		e.Name, e.Names = sample.Some(d, []string{"b", "c", "d"}), sample.Some(d, [][]string{{"true", "false"}, {"Green", "Red"}, {"One"}})
		kids = len(e.Names)
	}
	for range kids {
		e.Kids = append(e.Kids, small(d, deep-1))
	}
	return e
}

func TestSmall(t *testing.T) { // P8.1: expressions of any kind, right or not
	p, _ := read(t, declared)
	right := 0
	for i := range 400000 {
		d := sample.Dice(i)
		e := small(&d, 1+d.Below(3))
		(&sample.Parts{}).Expr(&e)
		typ, err := types.Expr(p, env, e)
		if want, wrong := typeOf(p, env, e); typ != want || faults.Text(err) != faults.Text(wrong) {
			t.Fatalf("%s: %v, %v, not %v, %v", show.Expr(e), typ, err, want, wrong)
		}
		if err == nil && len(e.Kids) > 0 {
			right++
		}
	}
	if right < 10000 {
		t.Errorf("only %d right", right)
	}
}

func TestIllFormed(t *testing.T) { // P1: nothing is promised but an end without a panic
	for i := range 5000 {
		d := sample.Dice(i)
		p := sample.Program(uint64(i % 300))
		l := sample.Apart(&p)
		for range 1 + d.Below(5) {
			q, e := sample.Some(&d, l.Eqs), sample.Some(&d, l.Exprs)
			q.Kind, e.Kind = byte(d.Below(7)), byte(d.Below(15))
			if d.Below(3) == 0 {
				q.Lhs, q.Arms, e.Names, e.Kids = nil, nil, nil, nil
			}
			if d.Below(3) == 0 {
				q.Name, e.Name = "none", "None"
			}
		}
		types.Check(p)
		for _, e := range l.Exprs {
			types.Expr(p, p.Nodes[0].Ins, *e)
		}
	}
}
