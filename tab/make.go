package tab

import (
	"slices"

	"scrutiny/api"
	"scrutiny/trees"
)

// What is written on a sheet: sets of parts.
const (
	todo  = iota // those that are still to be split
	now          // those that hold here, as far as they are split
	later        // those that have to hold from the next state on
	rows
)

// sheet is what is known of a state while its parts are split.
type sheet [rows]set

// copied is a sheet in memory of its own.
func (s sheet) copied() sheet {
	for i := range s {
		s[i] = slices.Clone(s[i])
	}
	return s
}

// state is a state: its literals, what has to hold from the next state on, and which untils wait in it.
type state struct{ lits, later, wait set }

// key is a text that other states don't have.
func (s state) key() string { return s.lits.key() + s.later.key() + s.wait.key() }

// maker makes a formula's automaton.
type maker struct {
	parts  []part
	states []state
	found  map[string]int   // the states' numbers
	splits map[string][]int // the states in which parts hold
}

// Of is a formula's automaton.
func Of(e api.Expr) api.Aut {
	n := numbered{have: map[[3]int]int{}}
	whole := n.number(e)
	m := &maker{parts: n.l, found: map[string]int{}, splits: map[string][]int{}}
	begin := newSet(len(m.parts))
	begin.add(whole)
	out := api.Aut{Init: slices.Clone(m.split(begin))}
	for q := 0; q < len(m.states); q++ {
		out.Lits = append(out.Lits, m.literals(m.states[q]))
		out.Next = append(out.Next, slices.Clone(m.split(m.states[q].later)))
	}
	out.Acc = m.sets()
	return out
}

// literals are a state's literals, without places: what comes out hangs on none.
func (m *maker) literals(s state) []api.Expr {
	var out []api.Expr
	for _, i := range s.lits.parts() {
		out = append(out, trees.Bare(m.parts[i].lit))
	}
	return out
}

// sets are, of each until, the states in which it doesn't wait. One that never waits asks for nothing.
func (m *maker) sets() [][]int {
	var out [][]int
	for i, p := range m.parts {
		if p.op != api.EUntil {
			continue
		}
		var row []int
		for q, s := range m.states {
			if !s.wait.has(i) {
				row = append(row, q)
			}
		}
		if len(row) < len(m.states) {
			out = append(out, row)
		}
	}
	return out
}

// split are the states in which parts hold, each another way for them to do so.
func (m *maker) split(whole set) []int {
	key := whole.key()
	if l, ok := m.splits[key]; ok {
		return l
	}
	var out []int
	in := map[int]bool{}
	var on func(s sheet)
	on = func(s sheet) {
		i := s[todo].first()
		switch {
		case i < 0:
			if q := m.state(s[now], s[later]); !in[q] {
				in[q] = true
				out = append(out, q)
			}
		case s[now].has(i):
			s[todo].drop(i)
			on(s)
		default:
			s[todo].drop(i)
			s[now].add(i)
			m.spread(i, s, on)
		}
	}
	on(sheet{slices.Clone(whole), newSet(len(m.parts)), newSet(len(m.parts))})
	m.splits[key] = out
	return out
}

// spread hands on what is to be split further, now that a part holds: nothing, if it can't.
func (m *maker) spread(i int, s sheet, on func(sheet)) {
	p := m.parts[i]
	switch p.op {
	case isLit:
		if p.when == never || p.not >= 0 && s[now].has(p.not) {
			return
		}
	case api.EAnd:
		s[todo].add(p.a)
		s[todo].add(p.b)
	case api.ENext:
		s[later].add(p.a)
	case api.EOr:
		if !s[now].has(p.a) && !s[now].has(p.b) {
			other := s.copied()
			other[todo].add(p.a)
			on(other)
			s[todo].add(p.b)
		}
	case api.EUntil:
		if !s[now].has(p.b) {
			other := s.copied()
			other[todo].add(p.b)
			on(other)
			s[todo].add(p.a)
			s[later].add(i)
		}
	case api.ERel:
		s[todo].add(p.b)
		if !s[now].has(p.a) {
			other := s.copied()
			other[todo].add(p.a)
			on(other)
			s[later].add(i)
		}
	}
	on(s)
}

// state is the number of the state in which parts hold, and others have to from the next one on.
func (m *maker) state(here, next set) int {
	s := state{newSet(len(m.parts)), next, newSet(len(m.parts))}
	for _, i := range here.parts() {
		switch p := m.parts[i]; {
		case p.op == isLit && p.when == perhaps:
			s.lits.add(i)
		case p.op == api.EUntil && !here.has(p.b):
			s.wait.add(i)
		}
	}
	key := s.key()
	q, ok := m.found[key]
	if !ok {
		q = len(m.states)
		m.found[key] = q
		m.states = append(m.states, s)
	}
	return q
}
