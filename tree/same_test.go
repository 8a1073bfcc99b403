package tree_test

import (
	"reflect"
	"testing"

	"metronome/api"
	"metronome/tree"
)

// full answers trees in which every field of every type is set.

func fullExpr(deep int) api.Expr {
	e := api.Expr{Kind: api.EBin, Op: api.Add, N: 3, Name: "x", Names: []string{"C", "D"}, At: api.Pos{Line: 1, Col: 2}}
	if deep > 0 {
		e.Kids = []api.Expr{fullExpr(0), fullExpr(deep - 1), fullExpr(0)}
	}
	return e
}

func fullVar() api.Var {
	return api.Var{Name: "x", T: api.Type{Kind: api.TEnum, Name: "t"}, Clock: []api.On{{Ctor: "C", Var: "v"}, {Ctor: "D", Var: "w"}}, Last: true, First: fullExpr(1), At: api.Pos{Line: 1, Col: 2}}
}

func fullTrans() api.Trans {
	return api.Trans{E: fullExpr(1), To: "S", Resume: true, At: api.Pos{Line: 1, Col: 2}}
}

func fullEq(deep int) api.Equation {
	q := api.Equation{Kind: api.QAuto, Lhs: []string{"x", "y"}, Name: "f", Args: []api.Expr{fullExpr(1), fullExpr(0)}, Has: true, E: fullExpr(1), At: api.Pos{Line: 1, Col: 2}}
	if deep > 0 {
		a := api.Arm{Name: "S", B: fullBlock(deep - 1), Unless: []api.Trans{fullTrans(), fullTrans()}, Until: []api.Trans{fullTrans()}, At: api.Pos{Line: 1, Col: 2}}
		b := api.Arm{Name: "S", B: fullBlock(0), Until: []api.Trans{fullTrans()}}
		q.Arms = []api.Arm{a, b}
	}
	return q
}

func fullBlock(deep int) api.Block {
	return api.Block{Vars: []api.Var{fullVar(), fullVar()}, Eqs: []api.Equation{fullEq(deep), fullEq(0)}}
}

func fullNode() api.Node {
	return api.Node{Name: "f", Ins: []api.Var{fullVar()}, Outs: []api.Var{fullVar(), fullVar()}, B: fullBlock(2), At: api.Pos{Line: 1, Col: 2}}
}

func fullProgram() api.Program {
	t := api.Enum{Name: "t", Ctors: []string{"C", "D"}, At: api.Pos{Line: 1, Col: 2}}
	return api.Program{Enums: []api.Enum{t, {Name: "u"}}, Nodes: []api.Node{fullNode(), {Name: "g"}}}
}

// changes makes every single change of a tree, one after another: told is called in each, with where it is and whether it lies in an At.
func changes(x reflect.Value, where string, at bool, told func(where string, at bool)) {
	switch x.Kind() {
	case reflect.Struct:
		for i := range x.NumField() {
			name := x.Type().Field(i).Name
			changes(x.Field(i), where+"."+name, at || name == "At", told)
		}
		return
	case reflect.Slice:
		for i := range x.Len() {
			changes(x.Index(i), where+"[]", at, told)
		}
	}
	kept := reflect.New(x.Type()).Elem()
	kept.Set(x)
	switch x.Kind() {
	case reflect.String:
		x.SetString(x.String() + "!")
	case reflect.Bool:
		x.SetBool(!x.Bool())
	case reflect.Uint8:
		x.SetUint(x.Uint() + 1)
	case reflect.Int, reflect.Int32:
		x.SetInt(x.Int() + 1)
	case reflect.Slice:
		x.Set(reflect.Append(x.Slice3(0, x.Len(), x.Len()), reflect.Zero(x.Type().Elem())))
		told(where+" longer", at)
		if kept.Len() > 0 {
			x.Set(kept.Slice(0, kept.Len()-1))
			told(where+" shorter", at)
		}
		x.Set(kept)
		return
	}
	told(where, at)
	x.Set(kept)
}

// compared looks whether same notices each single change of a full tree but those of an At.
func compared[T any](t *testing.T, full func() T, same func(a, b T) bool) {
	t.Helper()
	a, b := full(), full()
	if !same(a, b) {
		t.Errorf("%T: not the same", a)
	}
	n := 0
	changes(reflect.ValueOf(&a).Elem(), "", false, func(where string, at bool) {
		n++
		if same(a, b) != at || same(b, a) != at {
			t.Errorf("%T: changed at %s: %t", a, where, !at)
		}
	})
	var none T
	if n < 10 || !same(a, b) || same(a, none) || same(none, a) || !same(none, none) {
		t.Errorf("%T: %d changes", a, n)
	}
}

func TestSame(t *testing.T) { // P4.1
	compared(t, func() api.Expr { return fullExpr(2) }, tree.SameExpr)
	compared(t, fullVar, tree.SameVar)
	compared(t, func() api.Equation { return fullEq(2) }, tree.SameEq)
	compared(t, func() api.Block { return fullBlock(2) }, tree.SameBlock)
	compared(t, fullNode, tree.SameNode)
	compared(t, fullProgram, tree.Same)
}

// hollow puts empty slices where a tree has none.
func hollow(x reflect.Value) {
	switch x.Kind() {
	case reflect.Struct:
		for i := range x.NumField() {
			hollow(x.Field(i))
		}
	case reflect.Slice:
		if x.IsNil() {
			x.Set(reflect.MakeSlice(x.Type(), 0, 0))
		}
		for i := range x.Len() {
			hollow(x.Index(i))
		}
	}
}

func TestSameEmpty(t *testing.T) { // P4.1: a nil slice is the same as an empty one
	a, b := fullProgram(), fullProgram()
	hollow(reflect.ValueOf(&b).Elem())
	if reflect.DeepEqual(a, b) || !tree.Same(a, b) || !tree.Same(b, a) {
		t.Error("empty slices")
	}
}
