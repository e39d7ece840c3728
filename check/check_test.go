package check

import (
	"math"
	"reflect"
	"slices"
	"strconv"
	"strings"
	"testing"

	"scrutiny/api"
	"scrutiny/expr"
	"scrutiny/lasso"
	"scrutiny/model"
	"scrutiny/probe"
	"scrutiny/sem"
	"scrutiny/step"
)

var xy = []string{"x", "y"}

const (
	count = "var x 0 2 0; proc P { x < 2 : x = x + 1; }"
	turn  = "var x 0 1 0; proc P { true : x = 1 - x; }"
	leave = "var x 0 4 0; proc P { true : x = x + 1; }"
)

// room are options of a kind, with room enough for small systems.
func room(kind int) api.Opts {
	return api.Opts{Kind: kind, Cap: 1 << 14, Stack: 1 << 14, M: 1 << 16, K: 3, Seed: 5}
}

// fault is the verdict of a code.
func fault(e api.Errno, at int, state ...int) api.Verdict {
	return api.Verdict{Kind: api.VError, Err: e, At: at, State: state}
}

// row is states of one number each.
func row(l ...int) [][]int {
	out := [][]int{}
	for _, n := range l {
		out = append(out, []int{n})
	}
	return out
}

// same: are two verdicts the same, where lists without elements may be nil?
func same(a, b api.Verdict) bool {
	rows := func(x, y []int) bool { return slices.Equal(x, y) }
	return a.Kind == b.Kind && a.Err == b.Err && a.At == b.At && slices.Equal(a.State, b.State) && slices.EqualFunc(a.Lasso.Stem, b.Lasso.Stem, rows) && slices.EqualFunc(a.Lasso.Cycle, b.Lasso.Cycle, rows)
}

// P23.1: formulas, and the first fault of a text. The place is that of `@`, which is left out.
func TestFormula(t *testing.T) {
	for _, text := range []string{"true", "x == 1", "G (x == 1 -> F y == 2) # so", " X X x < y U ! true\n", strings.Repeat("X ", 23) + "true"} {
		e, code, at := Formula(text, xy)
		if code != api.OK || at != 0 {
			t.Error(text, code, at)
		}
		if again, _, _ := Formula(expr.Show(e, xy), xy); !expr.Same(e, again) {
			t.Error(text)
		}
	}
	for _, x := range []struct {
		e    api.Errno
		text string
	}{
		{api.ErrForm, "@"}, {api.ErrForm, "x == 1 @?"}, {api.ErrBig, "x == @1073741825 )"}, {api.ErrForm, "x == @)"}, {api.ErrName, "x == 1 & @z"}, {api.ErrBig, strings.Repeat("(", 64) + "@x"},
		{api.ErrForm, "true @true"}, {api.ErrForm, "x == 1 @;"}, {api.ErrForm, "x < 1 @< 2"}, {api.ErrForm, "x + 1 @)"}, {api.ErrType, "true @+ 1"}, {api.ErrType, "x == 1 & (y @& true)"},
		{api.ErrType, "@x"}, {api.ErrType, "@- x"}, {api.ErrType, "x @+ 1"}, {api.ErrBig, "@" + strings.Repeat("X ", 24) + "true"}, {api.ErrBig, "X true @<-> (X true <-> true)"}, {api.ErrBig, "true @& " + strings.Repeat("X ", 22) + "true"},
	} {
		at := strings.Index(x.text, "@")
		if e, code, place := Formula(strings.Replace(x.text, "@", "", 1), xy); code != x.e || place != at || !reflect.DeepEqual(e, api.Expr{}) {
			t.Error(x.text, code, place)
		}
	}
	if _, code, at := Formula("x == 1", nil); code != api.ErrName || at != 0 {
		t.Error(code, at)
	}
	if _, code, at := Formula(strings.Repeat(" ", 65537), nil); code != api.ErrBig || at != 0 {
		t.Error(code, at)
	}
	// The negation counts, not the formula: it has no part more of `G x`, and one more of `G` in another way.
	if _, code, _ := Formula(strings.Repeat("! ", 99)+strings.Repeat("X ", 23)+"true", nil); code != api.OK {
		t.Error(code)
	}
}

// P23.2: each error where it is due, and all ahead of it are not.
func TestErrors(t *testing.T) {
	with := func(change func(o *api.Opts)) api.Opts {
		o := room(api.KFlat)
		change(&o)
		return o
	}
	most := func(n int) api.Opts { return with(func(o *api.Opts) { o.Cap = n }) }
	bad := with(func(o *api.Opts) { o.Stack = 0 })
	lossy := func(m int) api.Opts { return with(func(o *api.Opts) { o.Kind, o.M, o.Cap = api.KBlur, m, 0 }) }
	shift := "G (x == 1 | " + strings.Repeat("X ", 16) + "x == 0)"
	for i, x := range []struct {
		text, formula string
		o             api.Opts
		want          api.Verdict
	}{
		{"var x 0 1", "?", bad, fault(api.ErrForm, 9)}, {"", "?", bad, fault(api.ErrForm, 0)}, {leave, "x == ", bad, fault(api.ErrForm, 5)}, {leave, "x", bad, fault(api.ErrType, 0)}, {leave, "x == y", bad, fault(api.ErrName, 5)},
		{leave, "true", bad, fault(api.ErrArg, 0)}, {leave, "true", with(func(o *api.Opts) { o.Stack = 1<<20 + 1 }), fault(api.ErrArg, 0)}, {leave, "true", with(func(o *api.Opts) { o.Kind = 5 }), fault(api.ErrArg, 0)}, {leave, "true", most(-1), fault(api.ErrArg, 0)}, {leave, "true", most(1<<20 + 1), fault(api.ErrArg, 0)}, {leave, "true", lossy(0), fault(api.ErrArg, 0)}, {leave, "true", with(func(o *api.Opts) { o.Stack = math.MinInt }), fault(api.ErrArg, 0)},
		{leave, "true", most(5), fault(api.ErrBounds, 0, 4)}, {leave, "true", most(4), fault(api.ErrFull, 0)}, {leave, "x == 1", most(99), fault(api.ErrBounds, 0, 4)}, {leave, "true", lossy(1 << 16), fault(api.ErrBounds, 0, 4)}, {leave, "true", lossy(1), api.Verdict{Kind: api.VNothing}},
		{count, "true", with(func(o *api.Opts) { o.Stack = 1 }), api.Verdict{Kind: api.VHolds}}, {count, "true", with(func(o *api.Opts) { o.Stack = 1 << 20 }), api.Verdict{Kind: api.VHolds}}, {count, "true", most(1 << 20), api.Verdict{Kind: api.VHolds}},
		{"var x 0 2 0; proc P { x == 0 : x = 1; x == 0 : x = 2; }", "true", most(3), api.Verdict{Kind: api.VHolds}}, {"var x 0 2 0; proc P { x == 0 : x = 1; x == 0 : x = 2; }", "true", most(2), fault(api.ErrFull, 0)}, // the last one that comes is there
		{count, "true", most(3), api.Verdict{Kind: api.VHolds}}, {count, "true", most(2), fault(api.ErrFull, 0)}, {count, "true", most(0), fault(api.ErrFull, 0)}, {count, "true", lossy(1), api.Verdict{Kind: api.VNothing}},
		{count, "F x == 3", with(func(o *api.Opts) { o.Stack = 2 }), fault(api.ErrStack, 0)}, {count, "F x == 3", most(3), api.Verdict{Kind: api.VViolated, Lasso: api.Lasso{Stem: row(0, 1), Cycle: row(2)}}},
		{count, "!(" + shift + ")", most(99), fault(api.ErrBig, 0)}, {leave, "!(" + shift + ")", most(99), fault(api.ErrBounds, 0, 4)}, {count, "!(" + shift + ")", most(2), fault(api.ErrFull, 0)}, {count, "!(" + shift + ")", lossy(99), fault(api.ErrBig, 0)},
	} {
		if got := Check(x.text, x.formula, x.o); !same(got, x.want) {
			t.Error(i, got, x.want)
		}
	}
}

// P23.2: of the first states that there is room for each is looked at, though there are more; the first one is told.
func TestFirstBounds(t *testing.T) {
	text := "var x 0 9 0; var y 0 9 0; proc P { x < 3 : x = x + 1; y < 3 : y = y + 1; x == 1 & y == 1 : x = 10; x == 0 & y == 2 : x = 10; x == 3 & y == 3 : x = 10; }"
	m, _, _ := model.Parse(strings.Replace(text, "= 10", "= 9", 3))
	order, _, _ := step.Reach(m, 999)
	for most := range 20 {
		o := room(api.KFlat)
		o.Cap = most
		want := fault(api.ErrFull, 0)
		for i, v := range order[:most] {
			if slices.Equal(v, []int{1, 1}) || slices.Equal(v, []int{0, 2}) {
				want = fault(api.ErrBounds, 0, order[i]...)
				break
			}
		}
		for kind := range api.KBlur {
			o.Kind = kind
			if got := Check(text, "true", o); !same(got, want) {
				t.Error(most, kind, got, want)
			}
		}
	}
}

// P23.2, P23.3: verdicts that are known, of each kind.
func TestVerdicts(t *testing.T) {
	holds, violated := api.Verdict{Kind: api.VHolds}, func(stem, cycle [][]int) api.Verdict {
		return api.Verdict{Kind: api.VViolated, Lasso: api.Lasso{Stem: stem, Cycle: cycle}}
	}
	for _, x := range []struct {
		text, formula string
		want          api.Verdict
	}{
		{count, "F x == 2", holds}, {count, "G x < 2", violated(row(0, 1, 2), row(2))}, {count, "F G x == 2", holds}, {count, "x == 0 & X x == 1 & X X x == 2", holds}, {count, "x < 2 U x == 2", holds}, {count, "x == 0 R x < 2", holds}, {count, "false", violated(row(0, 1), row(2))}, {count, "true", holds}, {count, "1 + 1 == 2", holds}, {count, "x == 1", violated(row(0, 1), row(2))},
		{turn, "G F x == 0 & G F x == 1", holds}, {turn, "G (x == 0 <-> X x == 1)", holds}, {turn, "x == 1 | F x == 0", holds}, {turn, "F x == 2 <-> false", holds}, {"var x 0 1 0;", "G x == 0", holds}, {"var x 0 1 0;", "F x == 1", violated(nil, row(0))},
		{"var x 0 2 0; proc P { x == 0 : x = 1; x == 0 : x = 2; }", "F x == 1 | F x == 2", holds},
	} {
		for kind := range api.KBlur {
			if got := Check(x.text, x.formula, room(kind)); !same(got, x.want) {
				t.Error(x.text, x.formula, kind, got)
			}
		}
		want := x.want
		if want.Kind == api.VHolds {
			want.Kind = api.VNothing
		}
		if got := Check(x.text, x.formula, room(api.KBlur)); !same(got, want) {
			t.Error(x.text, x.formula, "lossy", got)
		}
	}
	for _, formula := range []string{"F G x == 0", "F G x == 1", "G x == 0", "X X x == 1", "x == 0 U x == 2", "F x == 1 -> G x == 1"} {
		v := Check(turn, formula, room(api.KTree))
		m, _, _ := model.Parse(turn)
		e, _, _ := Formula(formula, m.Names)
		if v.Kind != api.VViolated || !lasso.Valid(m, e, v.Lasso) {
			t.Error(formula, v)
		}
	}
}

// P23.2: places and blanks of the texts count for nothing in a witness.
func TestBlanks(t *testing.T) {
	text := "var x 0 2 0; var y 0 2 1; proc P { true : x = y, y = x; x == y : x = 2; } proc Q { y < 2 : y = y + 1; }"
	for _, formula := range []string{"F G x == 1", "G x < 2", "x == 0 U x == 2", "G F y == 0 | G F x == 0"} {
		one := Check(text, formula, room(api.KFlat))
		two := Check(strings.ReplaceAll(text, " ", " \n#x\n"), "  "+strings.ReplaceAll(formula, " ", "\t\t"), room(api.KFlat))
		if one.Kind != api.VViolated || !reflect.DeepEqual(one, two) {
			t.Error(formula, one, two)
		}
	}
}

// system is the text of a system of x and y, of which each is from 0 to 2; of one way alone, if that is asked.
func system(dice *probe.Dice, one bool) string {
	text := "var x 0 2 " + strconv.Itoa(dice.Roll(3)) + "; var y 0 2 " + strconv.Itoa(dice.Roll(3)) + "; proc P {"
	for i := range 9 {
		if dice.Roll(4) == 0 {
			continue
		}
		for range 1 + dice.Roll(3) {
			text += " x == " + strconv.Itoa(i/3) + " & y == " + strconv.Itoa(i%3) + " : x = " + strconv.Itoa(dice.Roll(3)) + ", y = " + strconv.Itoa(dice.Roll(3)) + ";"
			if one {
				break
			}
		}
	}
	return text + " }"
}

// P23.3, P23.5: where a system has one way alone, the verdict is what the formula says of it.
func TestOneWay(t *testing.T) {
	dice, yes, no := probe.Dice(23), 0, 0
	for i := range 800 {
		text := system(&dice, true)
		m, _, _ := model.Parse(text)
		formula := expr.Show(dice.Formula(2, 1+i%4), xy)
		e, code, _ := Formula(formula, xy)
		if code != api.OK {
			continue
		}
		states, _, _ := step.Reach(m, 9)
		last, _ := step.Next(m, states[len(states)-1])
		w := api.Word{V: states, Loop: slices.IndexFunc(states, func(v []int) bool { return slices.Equal(v, last[0]) })}
		want := sem.Holds(e, w)
		v := Check(text, formula, room(i%4))
		if (v.Kind == api.VHolds) != want || (v.Kind == api.VViolated) == want || !want && !lasso.Valid(m, e, v.Lasso) {
			t.Fatal(text, formula, v, want)
		}
		if want {
			yes++
		} else {
			no++
		}
	}
	if yes < 100 || no < 100 {
		t.Error(yes, no)
	}
}

// P23.3, P23.5: all lossless kinds tell the same; a witness is valid; what holds does so on ways at random; and of a
// formula and its negation both hold never.
func TestAnySystem(t *testing.T) {
	dice, count := probe.Dice(24), map[int]int{}
	for i := range 500 {
		text := system(&dice, false)
		m, _, _ := model.Parse(text)
		formula := expr.Show(dice.Formula(2, 1+i%4), xy)
		e, code, _ := Formula(formula, xy)
		if code != api.OK {
			continue
		}
		v := Check(text, formula, room(api.KFlat))
		count[v.Kind]++
		for kind := range api.KBlur {
			if other := Check(text, formula, room(kind)); !reflect.DeepEqual(v, other) {
				t.Fatal(text, formula, v, other)
			}
		}
		small := room(api.KBlur)
		small.M, small.K, small.Cap = 1+dice.Roll(200), 1+dice.Roll(3), 0
		blur := Check(text, formula, small)
		if blur.Kind != api.VViolated && blur.Kind != api.VNothing || blur.Kind == api.VViolated && (v.Kind != api.VViolated || !lasso.Valid(m, e, blur.Lasso)) {
			t.Fatal(text, formula, blur)
		}
		switch v.Kind {
		case api.VViolated:
			if !lasso.Valid(m, e, v.Lasso) {
				t.Fatal(text, formula, v)
			}
		case api.VHolds:
			for range 50 {
				if w := way(&dice, m); !sem.Holds(e, w) {
					t.Fatal(text, formula, w)
				}
			}
			if Check(text, "!"+formula, room(api.KFlat)).Kind == api.VHolds {
				t.Fatal(text, formula)
			}
		default:
			t.Fatal(text, formula, v)
		}
	}
	if count[api.VHolds] < 50 || count[api.VViolated] < 50 {
		t.Error(count)
	}
}

// way is a way of a system at random, that goes round where it comes to a state again.
func way(dice *probe.Dice, m api.Model) api.Word {
	w := api.Word{V: [][]int{m.Init}}
	for {
		next, _ := step.Next(m, w.V[len(w.V)-1])
		v := next[dice.Roll(len(next))]
		at := slices.IndexFunc(w.V, func(x []int) bool { return slices.Equal(x, v) })
		if at >= 0 && dice.Roll(3) > 0 {
			w.Loop = at
			return w
		}
		w.V = append(w.V, v)
	}
}

// P23.4: how much is enough, and that it is.
func TestEnough(t *testing.T) {
	dice := probe.Dice(25)
	for i := range 300 {
		text, formula := system(&dice, i%2 == 0), expr.Show(dice.Formula(2, 1+i%4), xy)
		e, code, _ := Formula(formula, xy)
		n, got := Enough(text, formula)
		if code != api.OK {
			if n != 0 || got != code {
				t.Fatal(formula, n, got)
			}
			continue
		}
		m, _, _ := model.Parse(text)
		l, _, _ := step.Reach(m, 9)
		if want := len(l)*max(1, len(against(e).Next)) + 1; n != want || got != api.OK {
			t.Fatal(formula, n, want, got)
		}
		v := Check(text, formula, api.Opts{Kind: i % 4, Cap: n, Stack: n})
		if v.Kind == api.VError || !reflect.DeepEqual(v, Check(text, formula, room(i%4))) {
			t.Fatal(formula, n, v)
		}
	}
	for i, x := range []struct {
		text, formula string
		n             int
		e             api.Errno
	}{
		{count, "true", 4, api.OK}, {"var x 0 1 0;", "true", 2, api.OK}, {count, "", 0, api.ErrForm}, {"", "true", 0, api.ErrForm}, {"", "x", 0, api.ErrForm}, {count, "x", 0, api.ErrType}, {count, "y == 1", 0, api.ErrName}, {leave, "true", 0, api.ErrBounds}, {leave, "x", 0, api.ErrType},
		{"var x 0 1 0; var y 0 2", "true", 0, api.ErrForm}, {"var x 0 1 1; proc P { x == 1 : x = x - 2; }", "true", 0, api.ErrBounds},
	} {
		if n, e := Enough(x.text, x.formula); n != x.n || e != x.e {
			t.Error(i, n, e)
		}
	}
}

// P23.4: what is too much.
func TestEnoughBig(t *testing.T) {
	// x goes from 0 to Hi again and again, and y is how often: as many states as x has values, times as many as y has.
	wide := func(x, y int, more string) string {
		hi := strconv.Itoa(x - 1)
		return "var x 0 65535 0; var y 0 2000 0; var z 0 1 0; proc P { x < " + hi + " : x = x + 1; x == " + hi + " & y < " + strconv.Itoa(y-1) + " : x = 0, y = y + 1; " + more + "}"
	}
	for i, x := range []struct {
		text, formula string
		n             int
		e             api.Errno
	}{
		{wide(65535, 16, ""), "true", 65535*16 + 1, api.OK},
		{wide(1025, 1023, ""), "true", 1 << 20, api.OK}, // as much as may be
		{wide(65536, 16, ""), "true", 0, api.ErrBig},    // 1 too many
		{wide(65536, 16, "z == 0 & x == 65535 & y == 15 : z = 1; "), "true", 0, api.ErrBig},
		{wide(65536, 16, "x == 65535 & y == 15 : z = 2; "), "true", 0, api.ErrBounds},
		{wide(65536, 6, ""), "G x >= 0", 0, api.ErrBig}, // times 3
	} {
		if n, e := Enough(x.text, x.formula); n != x.n || e != x.e {
			t.Error(i, n, e)
		}
	}
}

// P23.3: long ways, and many states.
func TestLong(t *testing.T) {
	text := "var x 0 65535 0; proc P { x < 65535 : x = x + 1; }"
	for kind := range api.KBlur {
		o := api.Opts{Kind: kind, Cap: 1 << 20, Stack: 1 << 20}
		if v := Check(text, "F x == 65535", o); v.Kind != api.VHolds {
			t.Error(kind, v.Kind, v.Err)
		}
		if v := Check(text, "F G x == 65534", o); v.Kind != api.VViolated || len(v.Lasso.Stem) != 65535 {
			t.Error(kind, v.Kind, v.Err, len(v.Lasso.Stem))
		}
	}
}
