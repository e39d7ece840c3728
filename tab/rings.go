package tab

import "slices"

// rings looks for nodes that lead round to one another, as many as belong together, of which good says yes.
// It keeps the way that it goes in a row of its own, since ways may be longer than calls should be deep.
type rings struct {
	next func(node int) []int
	good func(ring []int) bool

	mark map[int]*mark
	way  []*mark // from where it began to where it is
	open []*mark // those whose ring isn't known yet
}

// mark is what is known of a node.
type mark struct {
	node  int
	count int // how many nodes came ahead of it
	low   int // the least count of a node that is known to be led to, and is open
	open  bool
	next  []int // to which it isn't known yet to lead
	loop  bool  // it leads to itself
}

// from goes through all that a node leads to and that wasn't gone through: is there a good ring?
func (r *rings) from(node int) bool {
	if r.mark == nil {
		r.mark = map[int]*mark{}
	}
	if r.mark[node] != nil {
		return false
	}
	r.enter(node)
	for len(r.way) > 0 {
		m := r.way[len(r.way)-1]
		if len(m.next) > 0 {
			to := m.next[0]
			m.next = m.next[1:]
			r.look(m, to)
		} else if r.leave(m) {
			return true
		}
	}
	return false
}

// enter goes on to a node.
func (r *rings) enter(node int) {
	n := len(r.mark)
	m := &mark{node: node, count: n, low: n, open: true, next: r.next(node)}
	m.loop = slices.Contains(m.next, node)
	r.mark[node] = m
	r.way = append(r.way, m)
	r.open = append(r.open, m)
}

// look takes in that a node leads to another one.
func (r *rings) look(m *mark, to int) {
	if other := r.mark[to]; other == nil {
		r.enter(to)
	} else if other.open {
		m.low = min(m.low, other.count)
	}
}

// leave goes back from a node. If it was the first one of its ring, all of that is known: is it good?
func (r *rings) leave(m *mark) bool {
	r.way = r.way[:len(r.way)-1]
	if m.low < m.count {
		last := r.way[len(r.way)-1]
		last.low = min(last.low, m.low)
		return false
	}
	var ring []int
	for m.open {
		x := r.open[len(r.open)-1]
		r.open = r.open[:len(r.open)-1]
		x.open = false
		ring = append(ring, x.node)
	}
	return (len(ring) > 1 || m.loop) && r.good(ring)
}
