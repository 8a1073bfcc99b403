package nums_test

import (
	"math"
	"testing"

	"metronome/api"
	"metronome/nums"
)

// edges are the numbers at which operators go wrong.
func edges() []int32 {
	return []int32{math.MinInt32, math.MinInt32 + 1, -1 << 20, -65536, -7, -3, -2, -1, 0, 1, 2, 3, 7, 46341, 65536, 1 << 20, math.MaxInt32 - 1, math.MaxInt32}
}

func bit(b bool) int64 {
	if b {
		return 1
	}
	return 0
}

// exact is an operator's answer in numbers of 64 bits, before it is cut to 32.
func exact(op byte, a, b int64) int64 {
	switch op {
	case api.Add:
		return a + b
	case api.Sub:
		return a - b
	case api.Mul:
		return a * b
	case api.Div:
		if b == 0 {
			return 0
		}
		return a / b
	case api.Mod:
		if b == 0 {
			return 0
		}
		return a - b*(a/b)
	}
	holds := map[byte]bool{
		api.And: a*b != 0, api.Or: a*a+b*b != 0, api.Xor: a-b != 0, api.Ne: a-b != 0, api.Eq: a-b == 0,
		api.Lt: a-b < 0, api.Le: a-b <= 0, api.Gt: a-b > 0, api.Ge: a-b >= 0,
	}
	return bit(holds[op])
}

func TestUn(t *testing.T) { // P2.1
	for op := range 256 {
		for _, a := range edges() {
			want := int64(0)
			switch byte(op) {
			case api.Not:
				want = bit(a == 0)
			case api.Neg:
				want = 0 - int64(a)
			}
			if got := nums.Un(byte(op), a); got != int32(want) {
				t.Errorf("Un(%d, %d) = %d, not %d", op, a, got, int32(want))
			}
		}
	}
	if nums.Un(api.Neg, math.MinInt32) != math.MinInt32 || nums.Un(api.Not, 2) != 0 {
		t.Error("the edges")
	}
}

func TestBin(t *testing.T) { // P2.1
	for op := range 256 {
		for _, a := range edges() {
			for _, b := range edges() {
				want := int32(exact(byte(op), int64(a), int64(b)))
				if got := nums.Bin(byte(op), a, b); got != want {
					t.Errorf("Bin(%d, %d, %d) = %d, not %d", op, a, b, got, want)
				}
			}
		}
	}
}

func TestBinAtEdges(t *testing.T) { // P2.1
	type row struct {
		op         byte
		a, b, want int32
	}
	for _, r := range []row{
		{api.Add, math.MaxInt32, 1, math.MinInt32}, {api.Sub, math.MinInt32, 1, math.MaxInt32}, {api.Mul, 1 << 20, 1 << 20, 0}, {api.Mul, math.MinInt32, -1, math.MinInt32},
		{api.Div, 7, 0, 0}, {api.Mod, 7, 0, 0}, {api.Div, math.MinInt32, 0, 0}, {api.Div, math.MinInt32, -1, math.MinInt32}, {api.Mod, math.MinInt32, -1, 0},
		{api.Div, -7, 3, -2}, {api.Mod, -7, 3, -1}, {api.Div, 7, -3, -2}, {api.Mod, 7, -3, 1}, {api.Div, -7, -3, 2}, {api.Mod, -7, -3, -1},
		{api.And, 2, -1, 1}, {api.And, 2, 0, 0}, {api.Or, 0, 2, 1}, {api.Or, 0, 0, 0}, {api.Xor, 2, 1, 1}, {api.Xor, 2, 2, 0},
		{api.Lt, math.MinInt32, math.MaxInt32, 1}, {api.Gt, math.MinInt32, math.MaxInt32, 0}, {api.Le, 3, 3, 1}, {api.Ge, 3, 3, 1}, {api.Lt, 3, 3, 0}, {api.Gt, 3, 3, 0},
		{0, 1, 1, 0}, {api.Not, 0, 0, 0}, {api.Neg, 1, 1, 0}, {api.Ge + 1, 1, 1, 0}, {255, 1, 1, 0},
	} {
		if got := nums.Bin(r.op, r.a, r.b); got != r.want {
			t.Errorf("Bin(%d, %d, %d) = %d, not %d", r.op, r.a, r.b, got, r.want)
		}
	}
}

func TestOperators(t *testing.T) { // P2.2
	type row struct {
		word     string
		strength int
		of, is   byte
	}
	rows := map[byte]row{
		api.Not: {"not", 0, api.TBool, api.TBool},
		api.Neg: {"-", 0, api.TInt, api.TInt},
		api.Add: {"+", 4, api.TInt, api.TInt},
		api.Sub: {"-", 4, api.TInt, api.TInt},
		api.Mul: {"*", 5, api.TInt, api.TInt},
		api.Div: {"/", 5, api.TInt, api.TInt},
		api.Mod: {"mod", 5, api.TInt, api.TInt},
		api.And: {"and", 2, api.TBool, api.TBool},
		api.Or:  {"or", 1, api.TBool, api.TBool},
		api.Xor: {"xor", 1, api.TBool, api.TBool},
		api.Eq:  {"=", 3, 0, api.TBool},
		api.Ne:  {"<>", 3, 0, api.TBool},
		api.Lt:  {"<", 3, api.TInt, api.TBool},
		api.Le:  {"<=", 3, api.TInt, api.TBool},
		api.Gt:  {">", 3, api.TInt, api.TBool},
		api.Ge:  {">=", 3, api.TInt, api.TBool},
	}
	for op := range 256 {
		var got row
		got.word, got.strength = nums.Word(byte(op)), nums.Strength(byte(op))
		got.of, got.is = nums.Types(byte(op))
		if got != rows[byte(op)] {
			t.Errorf("%d: %v, not %v", op, got, rows[byte(op)])
		}
	}
}

func TestIndex(t *testing.T) { // P2.3
	l := []string{"A", "B", "", "B", "b"}
	for c, want := range map[string]int32{"A": 0, "B": 1, "": 2, "b": 4, "a": -1, "AB": -1} {
		if got := nums.Index(l, c); got != want {
			t.Errorf("%q: %d, not %d", c, got, want)
		}
	}
	if nums.Index(nil, "A") != -1 || nums.Index(nil, "") != -1 || nums.Index([]string{}, "") != -1 {
		t.Error("of none")
	}
}

func TestFits(t *testing.T) { // P2.3
	for _, n := range edges() {
		for _, ctors := range []int{math.MinInt, -1, 0, 1, 2, 3, 32, math.MaxInt32, math.MaxInt} {
			for kind := range 256 {
				want := false
				switch byte(kind) {
				case api.TInt:
					want = true
				case api.TBool:
					want = n == 0 || n == 1
				case api.TEnum:
					want = 0 <= n && int64(n) < int64(ctors)
				}
				if got := nums.Fits(api.Type{Kind: byte(kind), Name: "t"}, ctors, n); got != want {
					t.Errorf("%d of kind %d with %d constructors: %v", n, kind, ctors, got)
				}
			}
		}
	}
}

func TestAgain(t *testing.T) { // P2
	l := []string{"A", "B"}
	for range 2 {
		if nums.Bin(api.Div, 7, 2) != 3 || nums.Word(api.Le) != "<=" || nums.Index(l, "B") != 1 || l[0] != "A" || l[1] != "B" {
			t.Error("another answer")
		}
	}
}
