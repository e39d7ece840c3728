package nest

import (
	"slices"

	"scrutiny/api"
	"scrutiny/prod"
	"scrutiny/store"
)

// end is what a search panics with, when it knows what is to be answered.
type end struct {
	found bool
	cycle api.Lasso
	code  api.Errno
	state []int
}

// search is what is gone through, what was come to, and the way of the outer search.
type search struct {
	m     api.Model
	a     api.Aut
	store api.Store
	outer way
}

// round is the flag of states to which an inner search came. An inner search begins at a state to be met just when all
// behind that is gone through: so what one came to without finding its own beginning need not be gone to by another.
const round = 0

// all goes through all that is reached.
func (s *search) all() {
	for _, x := range prod.Init(s.m, s.a) {
		if s.fresh(x) {
			s.outer.walk(x, s.fresh, s.back)
		}
	}
}

// next are the states to which one leads.
func (s *search) next(x []int) [][]int {
	l, e := prod.Next(s.m, s.a, x)
	if e != api.OK {
		panic(end{code: e, state: slices.Clone(x[:len(x)-1])})
	}
	return l
}

// fresh: is a state new to the outer search? It isn't from then on.
func (s *search) fresh(x []int) bool {
	t, more, e := store.Insert(s.store, x)
	if e != api.OK {
		panic(end{code: e})
	}
	s.store = t
	return more
}

// unmarked: is a state new to inner searches? It isn't from then on. One that isn't in the store is none for them: just
// a state of the outer way leads to it, from which that way itself leads on to where the inner search began; or one that
// a lossy store took for another.
func (s *search) unmarked(x []int) bool {
	is, e := store.Get(s.store, x, round)
	if is || e != api.OK {
		return false
	}
	s.store, _ = store.Set(s.store, x, round)
	return true
}

// back goes back from a state of the outer search: if it is to be met, does a way lead from it to itself?
func (s *search) back(x []int) {
	if !prod.Meets(s.a, x) {
		return
	}
	s.unmarked(x)
	in := &inner{search: s, from: x, way: way{search: s, most: s.outer.most}}
	in.way.walk(x, in.fresh, in.back)
}

// inner is an inner search, which seeks the state from which it began.
type inner struct {
	search *search
	from   []int
	way    way
}

// fresh: is a state new to inner searches? If it is the one from which this one began, the cycle is found.
func (in *inner) fresh(x []int) bool {
	if !slices.Equal(x, in.from) {
		return in.search.unmarked(x)
	}
	stem := in.search.outer.states()
	panic(end{found: true, cycle: api.Lasso{Stem: stem[:len(stem)-1], Cycle: in.way.states()}})
}

// back goes back from a state of an inner search: nothing is to be done there.
func (in *inner) back([]int) {}
