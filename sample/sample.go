// Package sample makes valid programs by chance, for tests: what the layers make of them has to have their meaning.
package sample

import (
	"slices"

	"metronome/api"
	"metronome/tree"
)

// Program is a valid program: of each number another one, of the same number always the same.
func Program(number uint64) api.Program {
	m := &maker{Dice: Dice(number)}
	m.enums()
	for i := range 1 + m.Below(3) {
		m.node("fgh"[i : i+1])
	}
	for i := range m.p.Nodes {
		j := i + m.Below(len(m.p.Nodes)-i)
		m.p.Nodes[i], m.p.Nodes[j] = m.p.Nodes[j], m.p.Nodes[i]
	}
	return m.p
}

// Dice are numbers that look as if by chance (splitmix).
type Dice uint64

// Below is a number from 0 to n - 1.
func (d *Dice) Below(n int) int {
	*d += 0x9e3779b97f4a7c15
	z := uint64(*d)
	z = (z ^ z>>30) * 0xbf58476d1ce4e5b9
	z = (z ^ z>>27) * 0x94d049bb133111eb
	return int((z ^ z>>31) >> 1 % uint64(n))
}

// once is true once in n times.
func (d *Dice) once(n int) bool { return d.Below(n) == 0 }

// maker is what makes a program, and what it has made of it so far: nodes call only those that are ahead of them.
type maker struct {
	Dice
	p api.Program
}

// known is a variable that can be seen from where the maker is.
type known struct {
	api.Var
	late  bool // may be undefined at first
	ready bool // is defined ahead of what is being made: it can be read at once
	away  bool // is of a block around, and sampled: it can't be read
}

// enums makes up to two types. Their constructors are A, B ..: so are the states of automata.
func (m *maker) enums() {
	ctor := 0
	for i := range m.Below(3) {
		t := api.Enum{Name: "st"[i : i+1]}
		for range 1 + m.Below(3) {
			t.Ctors = append(t.Ctors, "ABCDEF"[ctor:ctor+1])
			ctor++
		}
		m.p.Enums = append(m.p.Enums, t)
	}
}

func (m *maker) anyType() api.Type {
	i := m.Below(3 + len(m.p.Enums))
	if i < 3 {
		return api.Type{Kind: []byte{api.TInt, api.TInt, api.TBool}[i]}
	}
	return api.Type{Kind: api.TEnum, Name: m.p.Enums[i-3].Name}
}

// switchable is a type that has constructors.
func (m *maker) switchable() api.Type {
	for {
		if t := m.anyType(); t.Kind != api.TInt {
			return t
		}
	}
}

func (m *maker) constant(t api.Type) api.Expr {
	if t.Kind != api.TInt {
		l := tree.Ctors(m.p.Enums, t)
		return tree.Pick(t, l[m.Below(len(l))])
	}
	if m.once(9) {
		return tree.Int([]int32{-1 << 31, 1<<31 - 1, -1}[m.Below(3)])
	}
	return tree.Int(int32(m.Below(9)))
}

// variable makes one with a name that isn't seen, so blocks that don't see each other have variables of the same names.
func (m *maker) variable(seen []*known, t api.Type, rarely int) *known {
	v := &known{Var: api.Var{T: t}}
	for i := 0; v.Name == "" || slices.ContainsFunc(seen, func(k *known) bool { return k.Name == v.Name }); i++ {
		v.Name = "abcdefghijklmnopqrstuvwxyz"[i%26:i%26+1] + "012345678"[i/26:i/26+min(1, i/26)]
	}
	if m.once(rarely) {
		v.Last, v.First = true, m.constant(t)
	}
	return v
}

func (m *maker) node(name string) {
	n := api.Node{Name: name}
	var seen, outs []*known
	for range m.Below(4) {
		v := m.variable(seen, m.anyType(), 6)
		v.ready = true
		seen = append(seen, v)
		n.Ins = append(n.Ins, v.Var)
	}
	for range 1 + m.Below(3) {
		v := m.variable(seen, m.anyType(), 4)
		seen, outs = append(seen, v), append(outs, v)
		n.Outs = append(n.Outs, v.Var)
	}
	n.B, _ = m.block(seen, outs, 3)
	m.p.Nodes = append(m.p.Nodes, n)
}
