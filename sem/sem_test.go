package sem

import (
	"math"
	"slices"
	"testing"

	"scrutiny/api"
	"scrutiny/expr"
	"scrutiny/lex"
	"scrutiny/nnf"
	"scrutiny/probe"
)

// read is the formula of a text.
func read(t *testing.T, text string) api.Expr {
	t.Helper()
	l, _, _ := lex.Tokens(text)
	e, _, code, at := expr.Parse(l, 0, []string{"a", "b"})
	if code != api.OK {
		t.Fatal(text, code, at)
	}
	return e
}

// word is a word of a and b, in which each state is a digit: a its upper bit, b its lower one.
func word(states string, loop int) api.Word {
	w := api.Word{Loop: loop}
	for _, r := range states {
		n := int(r - '0')
		w.V = append(w.V, []int{n / 2, n % 2})
	}
	return w
}

// P17.1: words of any kind.
func TestRight(t *testing.T) {
	for i, x := range []struct {
		w    api.Word
		want bool
	}{{word("0", 0), true}, {word("00", 1), true}, {word("00", 2), false}, {word("00", -1), false}, {word("", 0), false}, {api.Word{V: [][]int{nil}}, true}, {word("0", math.MinInt), false}, {word("0", math.MaxInt), false}} {
		if Right(x.w) != x.want {
			t.Error(i)
		}
	}
}

// P17.2: where each kind of formulas holds, T by T.
func TestAll(t *testing.T) {
	for _, x := range []struct {
		text   string
		states string
		loop   int
		want   string
	}{
		{"a == 1", "0213", 1, "0101"}, {"a + b == 1", "0213", 1, "0110"}, {"true", "00", 0, "11"}, {"false", "00", 0, "00"}, {"!(a == 1) & b == 1", "0213", 0, "0010"},
		{"! X a == 1", "0213", 1, "0100"}, {"X a == 1", "0213", 0, "1010"}, {"X a == 1", "2", 0, "1"}, {"X X b == 1", "0010", 2, "1010"},
		{"F a == 1", "020", 2, "110"}, {"F a == 1", "020", 0, "111"}, {"F a == 1", "000", 1, "000"}, {"G a == 1", "2022", 2, "0011"}, {"G a == 1", "2022", 1, "0000"}, {"G a == 1", "22", 0, "11"},
		{"a == 1 U b == 1", "2210", 3, "1110"}, {"a == 1 U b == 1", "2201", 3, "0001"}, {"a == 1 U b == 1", "222", 0, "000"}, {"a == 1 U b == 1", "122", 0, "111"}, {"a == 1 U b == 1", "0122", 1, "0111"}, {"a == 1 U b == 1", "1", 0, "1"},
		{"a == 1 R b == 1", "1130", 3, "1110"}, {"a == 1 R b == 1", "1120", 3, "0000"}, {"a == 1 R b == 1", "111", 0, "111"}, {"a == 1 R b == 1", "0111", 1, "0111"}, {"a == 1 R b == 1", "110", 0, "000"}, {"a == 1 R b == 1", "1310", 0, "1100"},
		{"F G a == 1", "02", 1, "11"}, {"G F a == 0", "02", 1, "00"}, {"G F a == 0", "02", 0, "11"}, {"F a == 1 -> X a == 1", "0200", 2, "1011"}, {"F a == 1 <-> X a == 1", "0200", 2, "1011"}, {"X true | a == 1", "0", 0, "1"}, {"c == 0", "0", 0, "1"},
	} {
		if x.text == "c == 0" {
			// Of a variable that states don't have.
			e := api.Expr{Op: api.EEq, L: []api.Expr{{Op: api.EVar, N: 7}, {Op: api.ENum}}}
			if !Holds(e, word("3", 0)) {
				t.Error("c")
			}
			continue
		}
		got := ""
		for _, is := range All(read(t, x.text), word(x.states, x.loop)) {
			got += map[bool]string{true: "1", false: "0"}[is]
		}
		if got != x.want {
			t.Error(x.text, x.states, x.loop, got, x.want)
		}
	}
}

// P17.2, P17.3: against walking along the word.
func TestWalk(t *testing.T) {
	dice := probe.Dice(17)
	for range 4000 {
		e, w := dice.Formula(2, 4), dice.Word(2, 5)
		all := All(e, w)
		if len(all) != len(w.V) || Holds(e, w) != all[0] {
			t.Fatal(all, w)
		}
		for at, is := range all {
			if is != probe.Holds(e, w, at) {
				t.Fatal(expr.Show(e, []string{"a", "b"}), w, at, is)
			}
		}
	}
}

// P17.4: a formula and its negation never agree; however a word is written, the same holds.
func TestSame(t *testing.T) {
	dice := probe.Dice(4)
	for range 2000 {
		e, w := dice.Formula(2, 3), dice.Word(2, 4)
		is := Holds(e, w)
		if Holds(api.Expr{Op: api.ENot, L: []api.Expr{e}}, w) == is {
			t.Fatal(e, w)
		}
		if not, code := nnf.Not(e); code == api.OK && Holds(not, w) == is {
			t.Fatal(e, w)
		}
		round := slices.Clone(w.V[w.Loop:])
		longer := api.Word{V: append(slices.Clone(w.V), round...), Loop: w.Loop}
		later := api.Word{V: append(slices.Clone(w.V), w.V[w.Loop]), Loop: w.Loop + 1}
		if Holds(e, longer) != is || Holds(e, later) != is {
			t.Fatal(e, w)
		}
	}
}

// P17.2: long words come to an end.
func TestLong(t *testing.T) {
	w := api.Word{V: make([][]int, 1<<17)}
	for i := range w.V {
		w.V[i] = []int{i % 2, 0}
	}
	w.V[len(w.V)-1] = []int{0, 1}
	for text, want := range map[string]bool{"G F b == 1": true, "F G b == 0": false, "G (a == 1 -> X a == 0)": true, "b == 0 U b == 1": true, "X X X F a == 3": false} {
		if Holds(read(t, text), w) != want {
			t.Error(text)
		}
	}
}
