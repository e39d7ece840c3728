package nest

import (
	"slices"

	"scrutiny/api"
)

// spot is a state of a way, and those to which it leads and to which the way didn't go yet.
type spot struct {
	state []int
	next  [][]int
}

// way is a stack: the state where a search is, and those from which it came there, from the one where it began.
type way struct {
	search *search
	most   int
	spots  []spot
}

// states are the way's states, in memory of their own.
func (w *way) states() [][]int {
	out := make([][]int, len(w.spots))
	for i, x := range w.spots {
		out[i] = slices.Clone(x.state)
	}
	return out
}

// push goes on to a state.
func (w *way) push(x []int) {
	if len(w.spots) == w.most {
		panic(end{code: api.ErrStack})
	}
	w.spots = append(w.spots, spot{x, w.search.next(x)})
}

// walk goes from a state on to all that are fresh, depth first, and back from each one when nothing is left there.
func (w *way) walk(from []int, fresh func(x []int) bool, back func(x []int)) {
	w.push(from)
	for len(w.spots) > 0 {
		top := &w.spots[len(w.spots)-1]
		if len(top.next) == 0 {
			back(top.state)
			w.spots = w.spots[:len(w.spots)-1]
			continue
		}
		x := top.next[0]
		top.next = top.next[1:]
		if fresh(x) {
			w.push(x)
		}
	}
}
