package lasso

import (
	"reflect"
	"slices"
	"testing"

	"scrutiny/api"
	"scrutiny/expr"
	"scrutiny/lex"
	"scrutiny/model"
	"scrutiny/probe"
	"scrutiny/sem"
	"scrutiny/step"
)

// system is the system of a text.
func system(t *testing.T, text string) api.Model {
	t.Helper()
	m, e, at := model.Parse(text)
	if e != api.OK {
		t.Fatal(text, e, at)
	}
	return m
}

// formula is the formula of a text over x and y.
func formula(t *testing.T, text string) api.Expr {
	t.Helper()
	l, _, _ := lex.Tokens(text)
	e, _, code, at := expr.Parse(l, 0, []string{"x", "y"})
	if code != api.OK {
		t.Fatal(text, code, at)
	}
	return e
}

// row is states of one number each.
func row(l ...int) [][]int {
	out := [][]int{}
	for _, n := range l {
		out = append(out, []int{n})
	}
	return out
}

const count = "var x 0 2 0; proc P { x < 2 : x = x + 1; }"

// P22.1: without last numbers; as a word; of any kind, in memory of their own.
func TestOf(t *testing.T) {
	in := api.Lasso{Stem: [][]int{{1, 2, 3}, {4}, {}}, Cycle: [][]int{nil, {5, 6}}}
	want := api.Lasso{Stem: [][]int{{1, 2}, {}, {}}, Cycle: [][]int{{}, {5}}}
	got := Of(in)
	same := func(a, b []int) bool { return slices.Equal(a, b) }
	if !slices.EqualFunc(got.Stem, want.Stem, same) || !slices.EqualFunc(got.Cycle, want.Cycle, same) {
		t.Error(got)
	}
	if none := Of(api.Lasso{}); len(none.Stem) != 0 || len(none.Cycle) != 0 {
		t.Error(none)
	}
	got.Stem[0] = append(got.Stem[0], 9)
	got.Stem[0][0] = 9
	w := Word(in)
	if !slices.EqualFunc(w.V, [][]int{{1, 2, 3}, {4}, {}, nil, {5, 6}}, same) || w.Loop != 3 {
		t.Error(w)
	}
	w.V[0][0] = 9
	if in.Stem[0][0] != 1 || in.Stem[0][2] != 3 {
		t.Error("changed", in)
	}
	if w := Word(api.Lasso{}); len(w.V) != 0 || w.Loop != 0 || sem.Right(w) {
		t.Error(w)
	}
	if w := Word(api.Lasso{Stem: row(1, 2)}); len(w.V) != 2 || w.Loop != 2 || sem.Right(w) {
		t.Error(w)
	}
}

// P22.2: which rows of states are ways that go round.
func TestWay(t *testing.T) {
	fork := "var x 0 3 0; proc P { x == 0 : x = 1; x == 0 : x = 2; x == 1 : x = 0; x == 2 : x = 3; x == 3 : x = 4; }"
	for i, x := range []struct {
		text        string
		stem, cycle [][]int
		want        bool
	}{
		{count, row(0, 1), row(2), true}, {count, row(0, 1, 2), row(2), true}, {count, row(0, 1), row(2, 2), true}, {count, row(0), row(1), false}, {count, row(0, 1, 2), nil, false}, {count, nil, nil, false}, {count, nil, row(2), false}, {count, row(1), row(2), false}, {count, row(0), row(2), false},
		{count, row(0, 1), row(3), false}, {count, row(0, -1), row(2), false}, {count, [][]int{{0}, {1, 0}}, row(2), false}, {count, [][]int{{0}, {}}, row(2), false}, {count, row(0, 1), [][]int{nil}, false}, {count, [][]int{{}, {0}, {1}}, row(2), false},
		{fork, nil, row(0, 1), true}, {fork, row(0), row(1, 0), true}, {fork, row(0, 1), row(0, 1, 0, 1), true}, {fork, nil, row(0, 1, 0), false}, {fork, row(0, 2), row(3), false}, {fork, row(0, 2, 3), row(0), false}, {fork, nil, row(1, 0), false},
	} {
		if got := Way(system(t, x.text), api.Lasso{Stem: x.stem, Cycle: x.cycle}); got != x.want {
			t.Error(i, got)
		}
	}
}

// P22.3: witnesses, and such as aren't.
func TestValid(t *testing.T) {
	m := system(t, count)
	for i, x := range []struct {
		text        string
		stem, cycle [][]int
		want        bool
	}{
		{"G x < 2", row(0, 1), row(2), true}, {"G x < 2", row(0), row(1), false}, {"F x == 2", row(0, 1), row(2), false}, {"F x == 3", row(0, 1), row(2), true}, {"x == 1", row(0, 1), row(2), true}, {"x == 0", row(0, 1), row(2), false}, {"F G x == 1", row(0, 1), row(2, 2), true},
		{"false", row(0, 1), row(2), true}, {"true", row(0, 1), row(2), false}, {"false", nil, nil, false}, {"false", row(0, 1), nil, false}, {"false", [][]int{nil}, [][]int{nil}, false},
	} {
		if got := Valid(m, formula(t, x.text), api.Lasso{Stem: x.stem, Cycle: x.cycle}); got != x.want {
			t.Error(i, got)
		}
	}
}

// P22.4: what is valid is a way, step by step, on which the formula is false.
func TestAny(t *testing.T) {
	m := system(t, "var x 0 2 1; var y 0 2 0; proc P { x > 0 : x = x - 1, y = 2 - y; true : x = y; } proc Q { y == 0 & x < 2 : x = x + 1; y > 0 : y = y - 1; }")
	dice, yes, no := probe.Dice(22), 0, 0
	for range 4000 {
		// A way at random, that goes round at random, and one state of it may be another.
		way := [][]int{m.Init}
		for range 1 + dice.Roll(5) {
			next, _ := step.Next(m, way[len(way)-1])
			way = append(way, next[dice.Roll(len(next))])
		}
		if dice.Roll(4) == 0 {
			way[dice.Roll(len(way))] = []int{dice.Roll(4), dice.Roll(3)}
		}
		at := dice.Roll(len(way) + 1)
		l := api.Lasso{Stem: way[:at], Cycle: way[at:]}
		e := dice.Formula(2, 3)
		got, is := Valid(m, e, l), len(l.Cycle) > 0 && reflect.DeepEqual(way[0], m.Init)
		for i := range way {
			to := at
			if i+1 < len(way) {
				to = i + 1
			}
			if is && way[i][0] < 3 {
				next, _ := step.Next(m, way[i])
				is = slices.ContainsFunc(next, func(v []int) bool { return slices.Equal(v, way[to]) })
			} else {
				is = false
			}
		}
		if Way(m, l) != is || got != (is && !probe.Holds(e, Word(l), 0)) {
			t.Fatal(l, got, is)
		}
		if got {
			yes++
		} else if is {
			no++
		}
	}
	if yes < 100 || no < 100 {
		t.Error(yes, no)
	}
}
