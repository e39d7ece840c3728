package prod

import (
	"math"
	"reflect"
	"slices"
	"testing"

	"scrutiny/api"
	"scrutiny/degen"
	"scrutiny/expr"
	"scrutiny/lex"
	"scrutiny/model"
	"scrutiny/nnf"
	"scrutiny/probe"
	"scrutiny/schema"
	"scrutiny/step"
	"scrutiny/tab"
)

// system is the system of a text.
func system(t *testing.T, text string) api.Model {
	t.Helper()
	m, e, at := model.Parse(text)
	if e != api.OK {
		t.Fatal(text, e, at)
	}
	return m
}

// lit is the literal of a text over x and y.
func lit(t *testing.T, text string) api.Expr {
	t.Helper()
	l, _, _ := lex.Tokens(text)
	e, _, code, at := expr.Parse(l, 0, []string{"x", "y"})
	if code != api.OK {
		t.Fatal(text, code, at)
	}
	return e
}

const fork = "var x 0 3 0; var y 0 1 0; proc P { x == 0 : x = 1; x == 0 : x = 2; x == 1 : x = 3, y = 1; x == 3 : x = 4; }"

// three is an automaton of three states: of any, of x above 0, and of x 0.
func three(t *testing.T) api.Aut {
	return api.Aut{Lits: [][]api.Expr{nil, {lit(t, "x > 0")}, {lit(t, "x == 0")}}, Next: [][]int{{0, 1, 0, 2}, {1, 0}, nil}, Init: []int{2, 1, 0, 2}, Acc: [][]int{{2, 0}}}
}

// P20.1: the system's ranges, and one more.
func TestSchema(t *testing.T) {
	m := system(t, fork)
	for _, x := range []struct {
		states, hi int
		e          api.Errno
	}{{0, 0, api.OK}, {1, 0, api.OK}, {2, 1, api.OK}, {65536, 65535, api.OK}, {65537, 0, api.ErrBig}} {
		s, e := Schema(m, api.Aut{Lits: make([][]api.Expr, x.states), Next: make([][]int, x.states), Acc: [][]int{nil}})
		want := []api.Field{{Lo: 0, Hi: 3}, {Lo: 0, Hi: 1}, {Lo: 0, Hi: x.hi}}
		if e != x.e || e == api.OK && (!slices.Equal(s, want) || !schema.Right(s)) || e != api.OK && s != nil {
			t.Error(x.states, s, e)
		}
	}
	if len(m.Schema) != 2 {
		t.Error(m.Schema)
	}
}

// P20.2: where it begins: states that fit, in order, each once.
func TestInit(t *testing.T) {
	a := three(t)
	if got := Init(system(t, fork), a); !reflect.DeepEqual(got, [][]int{{0, 0, 2}, {0, 0, 0}}) {
		t.Error(got)
	}
	a.Init = []int{1, 1}
	if got := Init(system(t, fork), a); len(got) != 0 {
		t.Error(got)
	}
	if got := Init(system(t, fork), api.Aut{Acc: [][]int{nil}}); len(got) != 0 {
		t.Error(got)
	}
}

// P20.3: where both go on: the system's states in order, and of each the automaton's in order, each once; or a code.
func TestNext(t *testing.T) {
	m, a := system(t, fork), three(t)
	for i, x := range []struct {
		x    []int
		want [][]int
		e    api.Errno
	}{
		{[]int{0, 0, 0}, [][]int{{1, 0, 0}, {1, 0, 1}, {2, 0, 0}, {2, 0, 1}}, api.OK}, {[]int{1, 0, 1}, [][]int{{3, 1, 1}, {3, 1, 0}}, api.OK}, {[]int{0, 0, 2}, nil, api.OK}, {[]int{2, 1, 0}, [][]int{{2, 1, 0}, {2, 1, 1}}, api.OK},
		{[]int{3, 1, 0}, nil, api.ErrBounds}, {[]int{3, 1, 2}, nil, api.ErrBounds},
	} {
		v := slices.Clone(x.x)
		if got, e := Next(m, a, v); !reflect.DeepEqual(got, x.want) || e != x.e || !slices.Equal(v, x.x) {
			t.Error(i, got, e)
		}
	}
}

// P20.4: which states are to be met.
func TestMeets(t *testing.T) {
	a := three(t)
	if !Meets(a, []int{1, 1, 0}) || Meets(a, []int{0, 2, 1}) || !Meets(a, []int{1, 1, 2}) || Meets(api.Aut{Acc: [][]int{nil}}, []int{0, 0, 0}) {
		t.Error("meets")
	}
}

// P20.5: what is reached, in order, or the first fault.
func TestReach(t *testing.T) {
	turn := "var x 0 1 0; proc P { true : x = 1 - x; }"
	any := api.Aut{Lits: [][]api.Expr{nil, {lit(t, "x == 1")}}, Next: [][]int{{0, 1}, {0}}, Init: []int{0, 1}, Acc: [][]int{{0}}}
	none := api.Aut{Acc: [][]int{nil}}
	for i, x := range []struct {
		text string
		a    api.Aut
		most int
		want [][]int
		e    api.Errno
	}{
		{turn, any, 3, [][]int{{0, 0}, {1, 0}, {1, 1}}, api.OK}, {turn, any, math.MaxInt, [][]int{{0, 0}, {1, 0}, {1, 1}}, api.OK}, {turn, any, 2, nil, api.ErrFull}, {turn, any, 1, nil, api.ErrFull}, {turn, any, 0, nil, api.ErrFull}, {turn, any, math.MinInt, nil, api.ErrFull},
		{turn, none, 0, nil, api.OK}, {turn, none, 5, nil, api.OK}, {turn, none, -1, nil, api.ErrFull},
		{fork, three(t), 99, nil, api.ErrBounds}, {fork, three(t), 2, nil, api.ErrFull}, {fork, three(t), 7, nil, api.ErrFull}, {fork, three(t), 8, nil, api.ErrBounds},
		{"var x 0 1 0; proc P { true : x = 2; }", any, 1, nil, api.ErrBounds}, {"var x 0 1 0; proc P { true : x = 2; }", any, 0, nil, api.ErrFull},
	} {
		if got, e := Reach(system(t, x.text), x.a, x.most); !reflect.DeepEqual(got, x.want) || e != x.e {
			t.Error(i, got, e)
		}
	}
	four := api.Aut{Lits: [][]api.Expr{nil, nil}, Next: [][]int{{0, 1}, {1}}, Init: []int{0}, Acc: [][]int{{0}}}
	if got, e := Reach(system(t, turn), four, 4); len(got) != 4 || e != api.OK {
		t.Error(got, e)
	}
}

// P20.6: what is reached are states together, each once, whose parts are reached and go on.
func TestTogether(t *testing.T) {
	dice := probe.Dice(20)
	m := system(t, "var x 0 2 1; var y 0 2 0; proc P { x > 0 : x = x - 1, y = 2 - y; true : x = y; } proc Q { y == 0 & x < 2 : x = x + 1; y > 0 : y = y - 1; }")
	alone, _, _ := step.Reach(m, 99)
	in := func(l [][]int, v []int) bool {
		return slices.ContainsFunc(l, func(x []int) bool { return slices.Equal(x, v) })
	}
	for range 300 {
		e, code := nnf.Of(dice.Formula(2, 3))
		if code != api.OK {
			continue
		}
		a := degen.Of(tab.Of(e))
		s, _ := Schema(m, a)
		l, code := Reach(m, a, math.MaxInt)
		if code != api.OK {
			t.Fatal(code)
		}
		for i, x := range l {
			v, q := x[:2], x[2]
			next, _ := Next(m, a, x)
			if schema.In(s, x) != api.OK || in(l[:i], x) || !in(alone, v) || !tab.Fits(a, q, v) {
				t.Fatal(x)
			}
			after, _ := step.Next(m, v)
			for _, y := range next {
				if !in(l, y) || !in(after, y[:2]) || !slices.Contains(a.Next[q], y[2]) {
					t.Fatal(x, y)
				}
			}
		}
	}
}
