package nest

import (
	"math"
	"reflect"
	"slices"
	"strings"
	"testing"

	"scrutiny/api"
	"scrutiny/degen"
	"scrutiny/expr"
	"scrutiny/lex"
	"scrutiny/model"
	"scrutiny/nnf"
	"scrutiny/probe"
	"scrutiny/prod"
	"scrutiny/step"
	"scrutiny/tab"
)

// system is the system of a text.
func system(t *testing.T, text string) api.Model {
	t.Helper()
	m, e, at := model.Parse(text)
	if e != api.OK {
		t.Fatal(text, e, at)
	}
	return m
}

// automaton is the automaton of a formula over x and y, with one set.
func automaton(t *testing.T, text string) api.Aut {
	t.Helper()
	l, _, _ := lex.Tokens(text)
	e, _, code, at := expr.Parse(l, 0, []string{"x", "y"})
	if code != api.OK {
		t.Fatal(text, code, at)
	}
	e, _ = nnf.Of(e)
	return degen.Of(tab.Of(e))
}

// plain are options of a lossless kind.
func plain(kind, most, stack int) api.Opts { return api.Opts{Kind: kind, Cap: most, Stack: stack} }

// in: is a state one of a row?
func in(l [][]int, x []int) bool {
	return slices.ContainsFunc(l, func(y []int) bool { return slices.Equal(x, y) })
}

// cycle: is it a cycle, as the document says it?
func cycle(m api.Model, a api.Aut, l api.Lasso) bool {
	way := append(slices.Clone(l.Stem), l.Cycle...)
	if len(l.Cycle) == 0 || !in(prod.Init(m, a), way[0]) || !slices.ContainsFunc(l.Cycle, func(x []int) bool { return prod.Meets(a, x) }) {
		return false
	}
	for i, x := range append(way[1:len(way):len(way)], l.Cycle[0]) {
		if next, e := prod.Next(m, a, way[i]); e != api.OK || !in(next, x) {
			return false
		}
	}
	return true
}

// isCycle: is there a cycle, by closing what leads where?
func isCycle(m api.Model, a api.Aut, l [][]int) bool {
	to := make([][]bool, len(l))
	for i, x := range l {
		to[i] = make([]bool, len(l))
		next, _ := prod.Next(m, a, x)
		for j, y := range l {
			to[i][j] = in(next, y)
		}
	}
	for z := range to {
		for x := range to {
			for y := range to {
				to[x][y] = to[x][y] || to[x][z] && to[z][y]
			}
		}
	}
	for i, x := range l {
		if to[i][i] && prod.Meets(a, x) {
			return true
		}
	}
	return false
}

const (
	count = "var x 0 4 0; proc P { x < 4 : x = x + 1; }"
	turn  = "var x 0 1 0; proc P { true : x = 1 - x; }"
	leave = "var x 0 4 0; proc P { true : x = x + 1; }"
)

// P21.1: what refuses, in order.
func TestArguments(t *testing.T) {
	m, a := system(t, turn), automaton(t, "true")
	big := api.Aut{Lits: make([][]api.Expr, 65537), Next: make([][]int, 65537), Init: []int{0}, Acc: [][]int{nil}}
	for i, x := range []struct {
		a    api.Aut
		o    api.Opts
		want api.Errno
	}{
		{a, plain(0, 9, 9), api.OK}, {a, plain(0, 9, 1<<20), api.OK}, {a, plain(0, 9, 0), api.ErrArg}, {a, plain(0, 9, -1), api.ErrArg}, {a, plain(0, 9, 1<<20+1), api.ErrArg}, {a, plain(0, 9, math.MinInt), api.ErrArg},
		{a, plain(0, -1, 9), api.ErrArg}, {a, plain(0, 1<<20+1, 9), api.ErrArg}, {a, plain(5, 9, 9), api.ErrArg}, {a, plain(-1, 9, 9), api.ErrArg}, {a, api.Opts{Kind: api.KBlur, Stack: 9}, api.ErrArg}, {a, api.Opts{Kind: api.KBlur, Stack: 9, M: 1, K: 17}, api.ErrArg}, {a, api.Opts{Kind: api.KBlur, Stack: 9, M: 9, K: 1}, api.OK},
		{big, plain(0, 9, 9), api.ErrBig}, {big, plain(9, -1, -1), api.ErrBig},
	} {
		found, l, e, at := Find(m, x.a, x.o)
		if e != x.want || at != nil || e != api.OK && (found || !reflect.DeepEqual(l, api.Lasso{})) {
			t.Error(i, found, l, e, at)
		}
	}
}

// P21.1, P21.2: cycles that are there, and such that aren't; how much room a search needs.
func TestFind(t *testing.T) {
	for _, x := range []struct {
		system, formula string
		most, stack     int
		found           bool
		stem, cycle     int
		e               api.Errno
	}{
		{"var x 0 1 0;", "true", 1, 1, true, 0, 1, api.OK},
		{"var x 0 1 0;", "false", 0, 1, false, 0, 0, api.OK},
		{turn, "true", 2, 2, true, 1, 2, api.OK}, {turn, "true", 1, 2, false, 0, 0, api.ErrFull}, {turn, "true", 2, 1, false, 0, 0, api.ErrStack}, {turn, "true", 1, 1, false, 0, 0, api.ErrFull}, {turn, "true", 0, 1, false, 0, 0, api.ErrFull},
		{count, "true", 5, 5, true, 4, 1, api.OK}, {count, "true", 5, 4, false, 0, 0, api.ErrStack}, {count, "true", 4, 5, false, 0, 0, api.ErrFull},
		{turn, "false R x == 0", 9, 9, false, 0, 0, api.OK},
	} {
		m, a := system(t, x.system), automaton(t, x.formula)
		for kind := range api.KBlur {
			found, l, e, at := Find(m, a, plain(kind, x.most, x.stack))
			if found != x.found || e != x.e || len(l.Stem) != x.stem || len(l.Cycle) != x.cycle || at != nil || found && !cycle(m, a, l) {
				t.Error(x.system, x.formula, x.most, x.stack, kind, found, l, e, at)
			}
		}
	}
}

// P21.1: the state that leaves a range is told, where the search comes to it.
func TestBounds(t *testing.T) {
	m := system(t, leave)
	for kind := range api.KBlur + 1 {
		o := plain(kind, 9, 9)
		o.M, o.K = 1<<16, 4
		if found, l, e, at := Find(m, automaton(t, "true"), o); found || len(l.Cycle) != 0 || e != api.ErrBounds || !slices.Equal(at, []int{4}) {
			t.Error(kind, found, l, e, at)
		}
		// No run of the automaton goes on to it.
		if found, _, e, at := Find(m, automaton(t, "x == 0 & X x == 2"), o); found || e != api.OK || at != nil {
			t.Error(kind, found, e, at)
		}
	}
	bad := system(t, "var x 0 4 4; proc P { true : x = 5; }")
	_, _, _, at := Find(bad, automaton(t, "true"), plain(0, 9, 9))
	if at[0] = 0; bad.Init[0] != 4 {
		t.Error("changed")
	}
}

// systems are systems of two variables, and where each one goes at most.
var systems = []string{
	"var x 0 2 1; var y 0 2 0; proc P { x > 0 : x = x - 1, y = 2 - y; true : x = y; } proc Q { y == 0 & x < 2 : x = x + 1; y > 0 : y = y - 1; }",
	"var x 0 2 0; var y 0 2 0; proc P { x < 2 : x = x + 1; } proc Q { y < 2 : y = y + 1; x == 2 & y == 2 : x = 1, y = 1; }",
	"var x 0 2 2; var y 0 1 0; proc P { x == 2 : x = 1; x == 2 : x = 0; x == 1 : y = 1 - y; }",
	"var x 0 2 0; var y 0 2 2; proc P { true : x = y, y = x; x == y : x = 1; }",
}

// P21.2, P21.3: with room enough it is yes just if there is a cycle; all lossless kinds answer alike; what is told with
// less room is told with more.
func TestAny(t *testing.T) {
	dice, yes, no := probe.Dice(21), 0, 0
	for i := range 600 {
		m := system(t, systems[i%len(systems)])
		e, code := nnf.Of(dice.Formula(2, 1+i%4))
		if code != api.OK {
			continue
		}
		a := degen.Of(tab.Of(e))
		l, code := prod.Reach(m, a, 400)
		if code != api.OK {
			continue
		}
		want := isCycle(m, a, l)
		enough := max(1, len(l))
		found, first, code, at := Find(m, a, plain(api.KFlat, len(l), enough))
		if found != want || code != api.OK || at != nil || found != cycle(m, a, first) && found || !found && !reflect.DeepEqual(first, api.Lasso{}) {
			t.Fatal(expr.Show(e, []string{"x", "y"}), found, first, code)
		}
		if found {
			yes++
		} else {
			no++
		}
		for kind := range api.KBlur {
			for _, o := range []api.Opts{plain(kind, len(l), enough), plain(kind, 1<<20, 1<<20), plain(kind, dice.Roll(len(l)+1), enough), plain(kind, len(l), 1+dice.Roll(enough))} {
				f, other, code, at := Find(m, a, o)
				f1, other1, code1, _ := Find(m, a, plain(api.KFlat, o.Cap, o.Stack))
				switch {
				case at != nil || f != f1 || code != code1 || !reflect.DeepEqual(other, other1):
					t.Fatal(kind, o, f, other, code)
				case code == api.OK && (f != found || !reflect.DeepEqual(other, first)):
					t.Fatal(kind, o, f, other)
				case code != api.OK && (f || o.Cap >= len(l) && o.Stack >= enough || code == api.ErrFull && o.Cap >= len(l) || code == api.ErrStack && o.Stack >= enough):
					t.Fatal(kind, o, f, code)
				}
			}
		}
	}
	if yes < 50 || no < 50 {
		t.Error(yes, no)
	}
}

// P21.2: with the lossy kind yes is told just with a cycle, and never that it is full.
func TestLossy(t *testing.T) {
	dice, yes, same := probe.Dice(22), 0, 0
	for i := range 800 {
		m := system(t, systems[i%len(systems)])
		e, code := nnf.Of(dice.Formula(2, 1+i%4))
		if code != api.OK {
			continue
		}
		a := degen.Of(tab.Of(e))
		want, _, _, _ := Find(m, a, plain(api.KFlat, 1<<20, 1<<20))
		for _, bits := range []int{1, 7, 30, 1 << 16} {
			found, l, code, at := Find(m, a, api.Opts{Kind: api.KBlur, Stack: 1 << 20, M: bits, K: 1 + i%3, Seed: uint64(i)})
			if code != api.OK || at != nil || found && !cycle(m, a, l) || !found && !reflect.DeepEqual(l, api.Lasso{}) {
				t.Fatal(found, l, code, at)
			}
			if found {
				yes++
			}
			if bits == 1<<16 && found == want {
				same++
			}
		}
	}
	if yes < 100 || same < 200 {
		t.Error(yes, same)
	}
	one := api.Opts{Kind: api.KBlur, Stack: 1, M: 1, K: 1}
	if found, _, e, _ := Find(system(t, count), automaton(t, "true"), one); found || e != api.OK {
		t.Error(found, e)
	}
	one.M, one.K = 1<<16, 3
	if found, _, e, _ := Find(system(t, count), automaton(t, "true"), one); found || e != api.ErrStack {
		t.Error(found, e)
	}
}

// P21.1: the cycle hangs on no places of parts.
func TestPlaces(t *testing.T) {
	a := automaton(t, "F G x == 1 | G y == 0")
	for _, text := range systems {
		m, n := system(t, text), system(t, "\n\n"+strings.ReplaceAll(text, " ", "  "))
		_, one, _, _ := Find(m, a, plain(api.KTree, 999, 999))
		_, two, _, _ := Find(n, a, plain(api.KTree, 999, 999))
		if !reflect.DeepEqual(one, two) {
			t.Error(text, one, two)
		}
	}
}

// P21.2: each state that is reached is inserted, and what it leads to is asked, before no is told: a fault anywhere is
// come upon.
func TestAll(t *testing.T) {
	text := "var x 0 5 0; var y 0 5 0; proc P { x < 5 : x = x + 1; y < 5 : y = y + 1; "
	a := automaton(t, "G false | X false | x < 0 U x < 0")
	never := api.Aut{Lits: [][]api.Expr{nil}, Next: [][]int{{0}}, Init: []int{0}, Acc: [][]int{nil}}
	if found, _, e, _ := Find(system(t, text+"}"), a, plain(0, 99, 99)); found || e != api.OK {
		t.Error(found, e)
	}
	l, _, _ := step.Reach(system(t, text+"}"), 99)
	for _, v := range l {
		at := "x == " + string(rune('0'+v[0])) + " & y == " + string(rune('0'+v[1]))
		m := system(t, text+at+" : x = 9; }")
		if found, _, e, state := Find(m, never, plain(0, 99, 99)); found || e != api.ErrBounds || !slices.Equal(state, v) {
			t.Error(v, found, e, state)
		}
	}
}

// P21.2: ways as long as may be are gone through.
func TestLong(t *testing.T) {
	m := system(t, "var x 0 65535 0; proc P { x < 65535 : x = x + 1; }")
	a := automaton(t, "true U x == 65535")
	for kind := range api.KBlur {
		found, l, e, _ := Find(m, a, plain(kind, 1<<20, 1<<20))
		if !found || e != api.OK || !cycle(m, a, l) {
			t.Error(kind, found, e, len(l.Stem), len(l.Cycle))
		}
	}
}
