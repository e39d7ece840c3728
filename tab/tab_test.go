package tab

import (
	"reflect"
	"slices"
	"strings"
	"testing"

	"scrutiny/api"
	"scrutiny/expr"
	"scrutiny/lex"
	"scrutiny/nnf"
	"scrutiny/probe"
	"scrutiny/sem"
)

var ab = []string{"a", "b"}

// read is the formula of a text.
func read(t *testing.T, text string) api.Expr {
	t.Helper()
	l, _, _ := lex.Tokens(text)
	e, _, code, at := expr.Parse(l, 0, ab)
	if code != api.OK {
		t.Fatal(text, code, at)
	}
	return e
}

// lits are the literals of texts, parted by blanks, of each state.
func lits(t *testing.T, rows ...string) [][]api.Expr {
	out := [][]api.Expr{}
	for _, row := range rows {
		l := []api.Expr{}
		for _, text := range strings.Fields(row) {
			l = append(l, read(t, text))
		}
		out = append(out, l)
	}
	return out
}

// word is a word of a and b, in which each state is a digit: a its upper bit, b its lower one.
func word(states string, loop int) api.Word {
	w := api.Word{Loop: loop}
	for _, r := range states {
		w.V = append(w.V, []int{int(r-'0') / 2, int(r-'0') % 2})
	}
	return w
}

// P18.1: automata of any kind.
func TestRight(t *testing.T) {
	two := lits(t, "a==1 b==0", "")
	for i, x := range []struct {
		a    api.Aut
		want bool
	}{
		{api.Aut{}, true}, {api.Aut{Acc: [][]int{{}}}, true}, {api.Aut{Lits: two, Next: [][]int{{0, 1}, nil}, Init: []int{1, 0}, Acc: [][]int{{0}, nil}}, true},
		{api.Aut{Lits: two, Next: [][]int{{0, 1}}}, false}, {api.Aut{Lits: two, Next: [][]int{nil, nil, nil}}, false}, {api.Aut{Next: [][]int{nil}}, false},
		{api.Aut{Lits: two, Next: [][]int{{0, 2}, nil}}, false}, {api.Aut{Lits: two, Next: [][]int{{0, -1}, nil}}, false}, {api.Aut{Lits: two, Next: [][]int{nil, nil}, Init: []int{2}}, false}, {api.Aut{Lits: two, Next: [][]int{nil, nil}, Init: []int{-1}}, false},
		{api.Aut{Lits: two, Next: [][]int{nil, nil}, Acc: [][]int{{0}, {2}}}, false}, {api.Aut{Lits: two, Next: [][]int{nil, nil}, Acc: [][]int{{-1}}}, false}, {api.Aut{Init: []int{0}}, false}, {api.Aut{Acc: [][]int{{0}}}, false},
		{api.Aut{Lits: [][]api.Expr{{read(t, "X true")}}, Next: [][]int{nil}}, false}, {api.Aut{Lits: [][]api.Expr{{read(t, "a + 1")}}, Next: [][]int{nil}}, false}, {api.Aut{Lits: [][]api.Expr{{read(t, "a == true")}}, Next: [][]int{nil}}, false},
	} {
		if Right(x.a) != x.want {
			t.Error(i)
		}
	}
}

// P18.1: a state fits, if each of its literals holds.
func TestFits(t *testing.T) {
	a := api.Aut{Lits: lits(t, "a==1 b==0", "", "false", "a+b==2"), Next: make([][]int, 4)}
	for _, x := range []struct {
		v    []int
		want string
	}{{[]int{1, 0}, "1100"}, {[]int{1, 1}, "0101"}, {[]int{0, 0}, "0100"}, {[]int{2}, "0101"}, {nil, "0100"}} {
		got := ""
		for q := range a.Lits {
			got += map[bool]string{true: "1", false: "0"}[Fits(a, q, x.v)]
		}
		if got != x.want {
			t.Error(x.v, got)
		}
	}
}

// P18.1: words that are taken, where a run begins, goes on, and meets all sets again and again.
func TestTakes(t *testing.T) {
	one := api.Aut{Lits: lits(t, "a==1", "a==0"), Next: [][]int{{0, 1}, {0, 1}}, Init: []int{0}}
	for i, x := range []struct {
		acc  [][]int
		w    api.Word
		want bool
	}{
		{nil, word("2", 0), true}, {nil, word("0", 0), false}, {nil, word("20", 1), true}, {nil, word("20", 0), true},
		{[][]int{{0}}, word("20", 1), false}, {[][]int{{0}}, word("20", 0), true}, {[][]int{{0}, {1}}, word("2", 0), false}, {[][]int{{0}, {1}}, word("2202", 1), true}, {[][]int{{0}, {1}}, word("2202", 3), false}, {[][]int{nil}, word("2", 0), false}, {[][]int{{0, 1}, {1, 0}}, word("2", 0), true}, {[][]int{{1}}, word("2000", 2), true},
	} {
		one.Acc = x.acc
		if Takes(one, x.w) != x.want {
			t.Error(i)
		}
	}
	if Takes(api.Aut{}, word("0", 0)) || Takes(api.Aut{Lits: lits(t, ""), Next: [][]int{nil}, Init: []int{0}}, word("0", 0)) || Takes(api.Aut{Lits: lits(t, ""), Next: [][]int{{0}}}, word("0", 0)) {
		t.Error("no run")
	}
	long := word(strings.Repeat("2", 100000), 7)
	one.Acc = [][]int{{0}}
	if !Takes(one, long) {
		t.Error("long")
	}
}

// takes is Takes by closing what leads where.
func takes(a api.Aut, w api.Word) bool {
	n, states := len(w.V), len(a.Next)
	to := make([][]bool, n*states)
	for x := range to {
		to[x] = make([]bool, n*states)
		q, at := x/n, x%n+1
		if at == n {
			at = w.Loop
		}
		for _, r := range a.Next[q] {
			to[x][r*n+at] = Fits(a, r, w.V[at]) && Fits(a, q, w.V[x%n])
		}
	}
	for z := range to {
		for x := range to {
			for y := range to {
				to[x][y] = to[x][y] || to[x][z] && to[z][y]
			}
		}
	}
	for _, q := range a.Init {
		for x := range to {
			if !Fits(a, q, w.V[0]) || x != q*n && !to[q*n][x] || !to[x][x] {
				continue
			}
			all := true
			for _, set := range a.Acc {
				all = all && slices.ContainsFunc(set, func(r int) bool {
					for at := range n {
						if y := r*n + at; to[x][y] && to[y][x] {
							return true
						}
					}
					return false
				})
			}
			if all {
				return true
			}
		}
	}
	return false
}

// P18.1: against closing what leads where, of automata of any kind.
func TestTakesAny(t *testing.T) {
	dice, yes := probe.Dice(9), 0
	for range 3000 {
		a := dice.Automaton(2, 5)
		w := dice.Word(2, 4)
		want := takes(a, w)
		if Takes(a, w) != want {
			t.Fatal(a, w, want)
		}
		if want {
			yes++
		}
	}
	if yes < 100 {
		t.Error(yes)
	}
}

// formed: has an automaton the form that is promised, of a formula?
func formed(a api.Aut, e api.Expr) bool {
	twice := func(l []int) bool {
		l = slices.Sorted(slices.Values(l))
		return len(slices.Compact(slices.Clone(l))) < len(l)
	}
	power := 1
	for range min(nnf.Size(e), 15) {
		power *= 4
	}
	return Right(a) && !twice(a.Init) && !slices.ContainsFunc(a.Next, twice) && len(a.Next) <= power
}

// without is a formula without places.
func without(e api.Expr) api.Expr {
	e.At = 0
	e.L = slices.Clone(e.L)
	for i := range e.L {
		e.L[i] = without(e.L[i])
	}
	return e
}

// P18.2: the automaton of a formula takes just the words of which it holds.
func TestOf(t *testing.T) {
	dice := probe.Dice(2)
	for i := range 3000 {
		e := dice.Right(2, 1+i%4)
		a := Of(e)
		if !formed(a, e) || !reflect.DeepEqual(a, Of(without(e))) {
			t.Fatal(expr.Show(e, ab), len(a.Next))
		}
		for range 8 {
			w := dice.Word(2, 5)
			if want := sem.Holds(e, w); Takes(a, w) != want {
				t.Fatal(expr.Show(e, ab), w, want)
			}
		}
	}
}

// P18.2: formulas by hand, whose words are known; of those without words, and of more parts than a number has bits.
func TestOfKnown(t *testing.T) {
	many := strings.Repeat
	for _, x := range []struct {
		text    string
		yes, no []api.Word
	}{
		{"true", []api.Word{word("0", 0), word("0123", 2)}, nil},
		{"false", nil, []api.Word{word("0", 0)}},
		{"! true", nil, []api.Word{word("0", 0)}},
		{"! false", []api.Word{word("0", 0)}, nil},
		{"1 + 1 == 2", []api.Word{word("0", 0)}, nil},
		{"X (a == 1 & a == 0)", nil, []api.Word{word("02", 0)}},
		{"a == 1 & X a == 0 & ! a == 1", nil, []api.Word{word("02", 0), word("20", 0)}},
		{"a == 1 U b == 1", []api.Word{word("1", 0), word("221", 0)}, []api.Word{word("2", 0), word("20", 1), word("0", 0)}},
		{"true U false R a == 1", []api.Word{word("02", 1)}, []api.Word{word("02", 0)}},
		{"false R true U a == 1", []api.Word{word("02", 0)}, []api.Word{word("20", 1)}},
		{"(true U a == 1) & X (a == 1 U b == 1)", []api.Word{word("2310", 3)}, []api.Word{word("01", 1), word("220", 2)}},
		{"a == 1 U X a == 1", []api.Word{word("02", 1), word("220", 2)}, []api.Word{word("00", 0)}},
		{"false R (true U a == 1 & true U b == 1)", []api.Word{word("012", 0), word("3", 0)}, []api.Word{word("201", 2), word("2", 0)}},
		{"false R X (a == 1 U b == 1)", []api.Word{word("01", 1), word("21", 0)}, []api.Word{word("2", 0), word("0", 0)}},
		{"! true | true U b == 1 & ! true | (! true R ! b == 1) & true U true", []api.Word{word("02", 1)}, []api.Word{word("01", 0)}},
		{"X a == 1 & ! a == 1 | X ! ! a == 1 & a == 1", []api.Word{word("02", 1), word("2", 0)}, []api.Word{word("0", 0), word("20", 0)}},
		{many("X ", 100) + "a == 1", []api.Word{word(many("0", 100)+"2", 0), word("2", 0)}, []api.Word{word(many("2", 100)+"0", 100)}},
		{many("X true & ", 300) + "a == 1", []api.Word{word("2", 0)}, []api.Word{word("0", 0)}},
	} {
		e := read(t, x.text)
		a := Of(e)
		if !formed(a, e) {
			t.Error(x.text, a)
		}
		for i, w := range x.yes {
			if !Takes(a, w) || !sem.Holds(e, w) {
				t.Error(x.text, "yes", i)
			}
		}
		for i, w := range x.no {
			if Takes(a, w) || sem.Holds(e, w) {
				t.Error(x.text, "no", i)
			}
		}
	}
}

// P18.2: literals are of the formula's variables alone, and without places, in memory of their own.
func TestLits(t *testing.T) {
	e := read(t, "b == 1 U b == 2")
	a := Of(e)
	for _, l := range a.Lits {
		for _, x := range l {
			if x.At != 0 || x.L[0].N != 1 || x.L[0].At != 0 {
				t.Error(x)
			}
			x.L[0].N = 7
		}
	}
	if expr.Show(e, ab) != "((b == 1) U (b == 2))" {
		t.Error("changed")
	}
}

// P18.3: of a formula and its negation each word is taken by one alone.
func TestNegation(t *testing.T) {
	dice, some := probe.Dice(3), 0
	for range 1500 {
		e := dice.Formula(2, 3)
		of, c := nnf.Of(e)
		not, d := nnf.Not(e)
		if c != api.OK || d != api.OK {
			continue
		}
		yes, no := Of(of), Of(not)
		for range 5 {
			w := dice.Word(2, 4)
			if Takes(yes, w) == Takes(no, w) || Takes(yes, w) != sem.Holds(e, w) {
				t.Fatal(expr.Show(e, ab), w)
			}
			some++
		}
	}
	if some < 3000 {
		t.Error(some)
	}
}
