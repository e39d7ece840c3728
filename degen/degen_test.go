package degen

import (
	"reflect"
	"slices"
	"testing"

	"scrutiny/api"
	"scrutiny/probe"
	"scrutiny/tab"
)

// lit is a literal that is told by a number.
func lit(n int) api.Expr {
	return api.Expr{Op: api.EEq, At: 7, L: []api.Expr{{Op: api.EVar, N: n}, {Op: api.ENum, N: 1}}}
}

// same: are two automata the same, where lists without elements may be nil?
func same(a, b api.Aut) bool {
	rows := func(x, y []int) bool { return slices.Equal(x, y) }
	return slices.Equal(a.Init, b.Init) && slices.EqualFunc(a.Next, b.Next, rows) && slices.EqualFunc(a.Acc, b.Acc, rows) &&
		slices.EqualFunc(a.Lits, b.Lits, func(x, y []api.Expr) bool {
			return len(x) == 0 && len(y) == 0 || reflect.DeepEqual(x, y)
		})
}

// P19.1: numbers, edges, and what is to be met.
func TestOf(t *testing.T) {
	l := [][]api.Expr{{lit(0)}, {lit(1), lit(2)}, nil}
	for i, x := range []struct{ a, want api.Aut }{
		// Edges to and fro, a set of each state: 0 leads to 3 (state 1, set 1).
		{
			api.Aut{Lits: l[:2], Next: [][]int{{1}, {0}}, Init: []int{0}, Acc: [][]int{{0}, {1}}},
			api.Aut{Lits: [][]api.Expr{l[0], l[0], l[1], l[1]}, Next: [][]int{{3}, {3}, {0}, {0}}, Init: []int{0}, Acc: [][]int{{0}}},
		},
		// No sets: one of all states.
		{
			api.Aut{Lits: l, Next: [][]int{{2, 0, 1}, nil, {1, 1}}, Init: []int{2, 0}},
			api.Aut{Lits: l, Next: [][]int{{2, 0, 1}, nil, {1, 1}}, Init: []int{2, 0}, Acc: [][]int{{0, 1, 2}}},
		},
		// One set, told twice and not rising.
		{
			api.Aut{Lits: l, Next: [][]int{{0}, {1}, {2, 0}}, Init: []int{1, 1}, Acc: [][]int{{2, 0, 2}}},
			api.Aut{Lits: l, Next: [][]int{{0}, {1}, {2, 0}}, Init: []int{1, 1}, Acc: [][]int{{0, 2}}},
		},
		// Three sets, one of which is empty, and a state in two of them.
		{
			api.Aut{Lits: l[:2], Next: [][]int{{1, 0}, {1}}, Init: []int{1}, Acc: [][]int{{1, 0}, nil, {0}}},
			api.Aut{Lits: [][]api.Expr{l[0], l[0], l[0], l[1], l[1], l[1]}, Next: [][]int{{4, 1}, {4, 1}, {3, 0}, {4}, {4}, {5}}, Init: []int{3}, Acc: [][]int{{0, 3}}},
		},
		// Nothing at all.
		{api.Aut{}, api.Aut{Acc: [][]int{nil}}},
		{api.Aut{Acc: [][]int{nil, nil}}, api.Aut{Acc: [][]int{nil}}},
	} {
		if got := Of(x.a); !same(got, x.want) {
			t.Errorf("%d %+v", i, got)
		}
	}
}

// P19.2: the same words are taken, and there is one row.
func TestWords(t *testing.T) {
	dice, yes := probe.Dice(19), 0
	for range 3000 {
		a := dice.Automaton(2, 5)
		d := Of(a)
		if !tab.Right(d) || len(d.Acc) != 1 || len(d.Next) != len(a.Next)*max(1, len(a.Acc)) {
			t.Fatal(a, d)
		}
		for range 3 {
			w := dice.Word(2, 4)
			if tab.Takes(a, w) != tab.Takes(d, w) {
				t.Fatal(a, w)
			}
			if tab.Takes(a, w) {
				yes++
			}
		}
	}
	if yes < 500 {
		t.Error(yes)
	}
}

// R3: what comes out is in memory of its own.
func TestOwn(t *testing.T) {
	a := api.Aut{Lits: [][]api.Expr{{lit(0)}}, Next: [][]int{{0}}, Init: []int{0}, Acc: [][]int{{0}, {0}}}
	d := Of(a)
	d.Lits[0][0].L[0].N, d.Next[0][0], d.Init[0], d.Acc[0][0] = 9, 9, 9, 9
	if a.Lits[0][0].L[0].N != 0 || d.Lits[1][0].L[0].N != 0 || a.Next[0][0] != 0 || a.Init[0] != 0 || a.Acc[0][0] != 0 {
		t.Error(a, d)
	}
}
