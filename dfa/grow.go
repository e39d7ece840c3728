package dfa

import (
	"cmp"
	"container/heap"
	"slices"

	"scrutiny/api"
)

// edges are those of a node, by rising bytes.
type edges struct{ next []api.Edge }

// place is where the edge of a byte is, or would be.
func (e edges) place(by byte) (int, bool) {
	return slices.BinarySearchFunc(e.next, by, func(x api.Edge, by byte) int { return cmp.Compare(x.By, by) })
}

// to is the node to which a byte leads.
func (e edges) to(by byte) int {
	if i, ok := e.place(by); ok {
		return e.next[i].To
	}
	return none
}

// copied are the edges in memory of their own, with room for one more.
func (e edges) copied() []api.Edge {
	return append(make([]api.Edge, 0, len(e.next)+1), e.next...)
}

// turned are the edges, where that of a byte leads to another node.
func (e edges) turned(by byte, to int) []api.Edge {
	out := e.copied()
	i, ok := e.place(by)
	if !ok {
		out = slices.Insert(out, i, api.Edge{})
	}
	out[i] = api.Edge{By: by, To: to}
	return out
}

// knot is a place on a word's way: a node's edges, and what the word's next byte is there.
type knot struct {
	edges
	by byte
}

// least is a heap of numbers, the least one first.
type least []int

func (l least) Len() int           { return len(l) }
func (l least) Less(i, j int) bool { return l[i] < l[j] }
func (l least) Swap(i, j int)      { l[i], l[j] = l[j], l[i] }
func (l *least) Push(x any)        { *l = append(*l, x.(int)) }
func (l *least) Pop() any {
	last := len(*l) - 1
	x := (*l)[last]
	*l = (*l)[:last]
	return x
}

// growth is an automaton that is made greater. A node that it makes is told from others by its Ref of 0, until an edge
// leads to it.
type growth struct {
	node []api.Node
	free least
}

// with is the node of what is left at a node, and a word besides.
func (g *growth) with(at int, w []byte) int {
	if len(w) == 0 {
		return g.end()
	}
	k := knot{by: w[0]}
	if at != none {
		k.next = g.node[at].Next
	}
	below := g.with(k.to(k.by), w[1:])
	return g.settled(k.turned, k.by, below)
}

// end is the node of whole words.
func (g *growth) end() int {
	if at := g.alike(nil); at != none {
		return at
	}
	return g.made(nil)
}

// settled is the node of edges of which one is turned: one that is there, or else a new one.
func (g *growth) settled(turn func(by byte, to int) []api.Edge, by byte, to int) int {
	next := turn(by, to)
	// No node that is there leads to a new one.
	if g.node[to].Ref > 0 {
		if at := g.alike(next); at != none {
			return at
		}
	}
	return g.made(next)
}

// alike is the node that has these edges.
func (g *growth) alike(next []api.Edge) int {
	for at, n := range g.node {
		if n.Ref > 0 && slices.Equal(n.Next, next) {
			return at
		}
	}
	return none
}

// made is a new node.
func (g *growth) made(next []api.Edge) int {
	for _, e := range next {
		g.node[e.To].Ref++
	}
	if len(g.free) > 0 {
		at := heap.Pop(&g.free).(int)
		g.node[at] = api.Node{Next: next}
		return at
	}
	g.node = append(g.node, api.Node{Next: next})
	return len(g.node) - 1
}

// drop lets go of a node, and frees it, if nothing leads to it any more.
func (g *growth) drop(at int) {
	g.node[at].Ref--
	if g.node[at].Ref > 0 {
		return
	}
	next := g.node[at].Next
	g.node[at] = api.Node{}
	heap.Push(&g.free, at)
	for _, e := range next {
		g.drop(e.To)
	}
}
