package nnf

import (
	"reflect"
	"strings"
	"testing"

	"scrutiny/api"
	"scrutiny/expr"
	"scrutiny/lex"
	"scrutiny/probe"
)

var abc = []string{"a", "b", "c"}

// read is the formula of a text.
func read(t *testing.T, text string) api.Expr {
	t.Helper()
	l, _, _ := lex.Tokens(text)
	e, _, code, at := expr.Parse(l, 0, abc)
	if code != api.OK {
		t.Fatal(text, code, at)
	}
	if _, code, at = expr.Type(e); code != api.OK {
		t.Fatal(text, code, at)
	}
	return e
}

// P16.1: literals, right formulas, and how many parts.
func TestLook(t *testing.T) {
	for _, x := range []struct {
		text       string
		lit, right bool
		size       int
	}{
		{"true", true, true, 1}, {"a + 1 < b * 2", true, true, 1}, {"!(a == 1) -> b == 2 <-> false", true, true, 1}, {"! ! ! true", true, true, 1},
		{"X a == 1", false, true, 2}, {"F a == 1", false, false, 2}, {"G true", false, false, 2}, {"a == 1 U b == 1", false, true, 3}, {"a == 1 R ! b == 1", false, true, 3},
		{"! X true", false, false, 3}, {"X ! true", false, true, 2}, {"X true & (a == 1 -> b == 1)", false, true, 4}, {"X true | F true", false, false, 5}, {"true -> X true", false, false, 4}, {"X true <-> true", false, false, 4},
		{"X (true U X (false & a == 1)) & b == 1", false, true, 7}, {"X X X F true", false, false, 5}, {"(true U true) R (true U G true)", false, false, 8},
	} {
		e := read(t, x.text)
		if Lit(e) != x.lit || Right(e) != x.right || Size(e) != x.size {
			t.Error(x.text, Lit(e), Right(e), Size(e))
		}
	}
}

// P16.2: each row of the table.
func TestRows(t *testing.T) {
	for _, x := range []struct{ text, of, not string }{
		{"a == 1", "(a == 1)", "(! (a == 1))"},
		{"! a == 1", "(! (a == 1))", "(! (! (a == 1)))"},
		{"a == 1 -> true", "((a == 1) -> true)", "(! ((a == 1) -> true))"},
		{"! X a == 1", "(X (! (a == 1)))", "(X (a == 1))"},
		{"! ! X true", "(X true)", "(X (! true))"},
		{"X true & b == 1", "((X true) & (b == 1))", "((X (! true)) | (! (b == 1)))"},
		{"X true | b == 1", "((X true) | (b == 1))", "((X (! true)) & (! (b == 1)))"},
		{"X true -> b == 1", "((X (! true)) | (b == 1))", "((X true) & (! (b == 1)))"},
		{"b == 1 -> X true", "((! (b == 1)) | (X true))", "((b == 1) & (X (! true)))"},
		{"X true <-> b == 1", "(((X true) & (b == 1)) | ((X (! true)) & (! (b == 1))))", "(((X true) & (! (b == 1))) | ((X (! true)) & (b == 1)))"},
		{"X a == 1", "(X (a == 1))", "(X (! (a == 1)))"},
		{"F a == 1", "(true U (a == 1))", "(false R (! (a == 1)))"},
		{"G a == 1", "(false R (a == 1))", "(true U (! (a == 1)))"},
		{"true U b == 1", "(true U (b == 1))", "((! true) R (! (b == 1)))"},
		{"true R b == 1", "(true R (b == 1))", "((! true) U (! (b == 1)))"},
		{"F G a == 1", "(true U (false R (a == 1)))", "(false R (true U (! (a == 1))))"},
		{"! (F true -> G false)", "((true U true) & (true U (! false)))", "((false R (! true)) | (false R false))"},
	} {
		e := read(t, x.text)
		of, c := Of(e)
		not, d := Not(e)
		if c != api.OK || d != api.OK || !Right(of) || !Right(not) {
			t.Error(x.text, c, d)
		}
		if expr.Show(of, abc) != x.of || expr.Show(not, abc) != x.not {
			t.Error(x.text, expr.Show(of, abc), expr.Show(not, abc))
		}
	}
}

// P16.2: a part's place is that of the part that it comes of.
func TestPlaces(t *testing.T) {
	lit := func(at int) api.Expr { return api.Expr{Op: api.ETrue, At: at} }
	not := func(e api.Expr) api.Expr { return api.Expr{Op: api.ENot, At: e.At, L: []api.Expr{e}} }
	two := func(op, at int, a, b api.Expr) api.Expr { return api.Expr{Op: op, At: at, L: []api.Expr{a, b}} }
	in := two(api.EIff, 5, api.Expr{Op: api.EFin, At: 3, L: []api.Expr{lit(4)}}, two(api.EImp, 8, lit(6), api.Expr{Op: api.ENext, At: 9, L: []api.Expr{lit(10)}}))
	next := func(e api.Expr) api.Expr { return api.Expr{Op: api.ENext, At: 9, L: []api.Expr{e}} }
	f, g := two(api.EUntil, 3, lit(3), lit(4)), two(api.ERel, 3, api.Expr{Op: api.EFalse, At: 3}, not(lit(4)))
	i, j := two(api.EOr, 8, not(lit(6)), next(lit(10))), two(api.EAnd, 8, lit(6), next(not(lit(10))))
	if got, _ := Of(in); !reflect.DeepEqual(got, two(api.EOr, 5, two(api.EAnd, 5, f, i), two(api.EAnd, 5, g, j))) {
		t.Errorf("%+v", got)
	}
	if got, _ := Not(in); !reflect.DeepEqual(got, two(api.EOr, 5, two(api.EAnd, 5, f, j), two(api.EAnd, 5, g, i))) {
		t.Errorf("%+v", got)
	}
}

// R3: what comes out is in memory of its own, and so is each of its parts.
func TestOwn(t *testing.T) {
	e := read(t, "a == 1 <-> X b == 2")
	of, _ := Of(e)
	of.L[0].L[0].L[1].N = 9
	if expr.Show(of, abc) != "(((a == 9) & (X (b == 2))) | ((! (a == 1)) & (X (! (b == 2)))))" || !expr.Same(e, read(t, "a == 1 <-> X b == 2")) {
		t.Error(expr.Show(of, abc), expr.Show(e, abc))
	}
}

// P16.2: what has more than 24 parts is refused, however many more it has.
func TestBig(t *testing.T) {
	many := strings.Repeat
	for i, x := range []struct {
		text    string
		of, not api.Errno
	}{
		{many("X ", 23) + "true", api.OK, api.OK}, {many("X ", 24) + "true", api.ErrBig, api.ErrBig}, {many("X ", 300) + "true", api.ErrBig, api.ErrBig}, {many("! ", 300) + "X true", api.OK, api.OK},
		{many("F ", 11) + "X true", api.OK, api.OK}, {many("F ", 12) + "true", api.ErrBig, api.ErrBig}, {many("G ", 11) + "true", api.OK, api.OK}, {many("a == 1 & ", 5000) + "true", api.OK, api.OK},
		{many("X true & ", 7) + "X true", api.OK, api.OK}, {many("X true & ", 8) + "true", api.ErrBig, api.ErrBig}, {many("X true | ", 6000) + "true", api.ErrBig, api.ErrBig},
		{"X true <-> true", api.OK, api.OK}, {many("X true <-> ", 2) + "true", api.ErrBig, api.ErrBig}, {many("X true <-> ", 300) + "true", api.ErrBig, api.ErrBig},
		{"X (a == 1 <-> X b == 1) & " + many("X ", 12) + "true", api.OK, api.OK}, {"X (a == 1 <-> X b == 1) & " + many("X ", 13) + "true", api.ErrBig, api.ErrBig},
	} {
		e := read(t, x.text)
		of, c := Of(e)
		not, d := Not(e)
		if c != x.of || d != x.not || c != api.OK && !reflect.DeepEqual(of, api.Expr{}) || d != api.OK && !reflect.DeepEqual(not, api.Expr{}) {
			t.Error(i, c, d, Size(of), Size(not))
		}
	}
}

// P16.2: the parts that are counted are those of what comes out: what is just not too big is told, what is one more isn't.
func TestBound(t *testing.T) {
	dice, most := probe.Dice(5), 0
	for range 3000 {
		e := dice.Formula(2, 4)
		for _, turn := range []func(api.Expr) (api.Expr, api.Errno){Of, Not} {
			out, code := turn(e)
			if code == api.OK && (Size(out) > api.MaxForm || !Right(out)) {
				t.Fatal(expr.Show(e, abc), Size(out))
			}
			most = max(most, Size(out))
			// One part more around it is refused just if it was full.
			_, more := turn(api.Expr{Op: api.ENext, L: []api.Expr{e}})
			if want := code == api.OK && Size(out) < api.MaxForm; (more == api.OK) != want {
				t.Fatal(expr.Show(e, abc), Size(out), more)
			}
		}
	}
	if most != api.MaxForm {
		t.Error(most)
	}
}

// P16.3: Of means what the formula means, Not just the opposite.
func TestMeaning(t *testing.T) {
	dice := probe.Dice(1)
	for range 1500 {
		e := dice.Formula(2, 3)
		of, c := Of(e)
		not, d := Not(e)
		for range 6 {
			w := dice.Word(2, 4)
			want := probe.Holds(e, w, 0)
			if c == api.OK && probe.Holds(of, w, 0) != want || d == api.OK && probe.Holds(not, w, 0) == want {
				t.Fatal(expr.Show(e, abc), w)
			}
		}
	}
}
