package expr

import (
	"math"
	"reflect"
	"strings"
	"testing"

	"scrutiny/api"
	"scrutiny/lex"
)

var abc = []string{"a", "b", "c"}

// read is what Parse tells of a text, from its first token on.
func read(t *testing.T, text string) (api.Expr, int, api.Errno, int) {
	t.Helper()
	l, e, _ := lex.Tokens(text)
	if e != api.OK {
		t.Fatal(text, e)
	}
	return Parse(l, 0, abc)
}

// tree is the tree of a text that is one.
func tree(t *testing.T, text string) api.Expr {
	t.Helper()
	x, _, e, at := read(t, text)
	if e != api.OK {
		t.Fatal(text, e, at)
	}
	return x
}

// P13.1: what binds how, from the weakest on; from the left, from the right, or not at all.
func TestParse(t *testing.T) {
	for text, want := range map[string]string{
		"1":                                   "1",
		"a":                                   "a",
		"((c))":                               "c",
		"true":                                "true",
		"a <-> b <-> c":                       "(a <-> (b <-> c))",
		"a -> b -> c":                         "(a -> (b -> c))",
		"a | b | c":                           "((a | b) | c)",
		"a & b & c":                           "((a & b) & c)",
		"a U b U c":                           "(a U (b U c))",
		"a R b U c R a":                       "(a R (b U (c R a)))",
		"a + b - c + 1":                       "(((a + b) - c) + 1)",
		"a * b * c":                           "((a * b) * c)",
		"a - b * c":                           "(a - (b * c))",
		"a <-> b -> c | a & b U c":            "(a <-> (b -> (c | (a & (b U c)))))",
		"a U b & c | a -> b <-> c":            "(((((a U b) & c) | a) -> b) <-> c)",
		"! a == b":                            "(! (a == b))",
		"! X F G a U b":                       "((! (X (F (G a)))) U b)",
		"X a & b":                             "((X a) & b)",
		"- - a + - b * - c":                   "((- (- a)) + ((- b) * (- c)))",
		"a + 1 <= b * 2":                      "((a + 1) <= (b * 2))",
		"a != b":                              "(a != b)",
		"a < b & a > b | a >= b":              "(((a < b) & (a > b)) | (a >= b))",
		"(a <-> b) <-> c":                     "((a <-> b) <-> c)",
		"(a -> b) -> c":                       "((a -> b) -> c)",
		"a | (b | c)":                         "(a | (b | c))",
		"(a U b) U c":                         "((a U b) U c)",
		"a - (b - c)":                         "(a - (b - c))",
		"F (a -> G false)":                    "(F (a -> (G false)))",
		"-(a)":                                "(- a)",
		"!(a)":                                "(! a)",
		"007":                                 "7",
		"a -> b <-> c -> a <-> b":             "((a -> b) <-> ((c -> a) <-> b))",
		"a < 3 & G b == 1":                    "((a < 3) & (G (b == 1)))",
		"a * -b - -1":                         "((a * (- b)) - (- 1))",
		"X X ! ! F F a R G b":                 "((X (X (! (! (F (F a)))))) R (G b))",
		"a == 1 U b == 1 U c == 1":            "((a == 1) U ((b == 1) U (c == 1)))",
		"(a == 1 | b == 2) & (c == 3 -> a<1)": "(((a == 1) | (b == 2)) & ((c == 3) -> (a < 1)))",
	} {
		x, behind, e, at := read(t, text)
		l, _, _ := lex.Tokens(text)
		if got := Show(x, abc); got != want || e != api.OK || at != 0 || behind != len(l)-1 {
			t.Errorf("%q: %q %d %d %d", text, got, behind, e, at)
		}
	}
}

// P13.1: it ends where nothing of it goes on, and begins anywhere.
func TestParseBehind(t *testing.T) {
	for i, x := range []struct {
		text   string
		at     int
		want   string
		behind int
	}{
		{"a b", 0, "a", 1}, {"a b", 1, "b", 2}, {"a < b < c", 0, "(a < b)", 3}, {"a == b != c", 0, "(a == b)", 3}, {"a )", 0, "a", 1}, {"a ; b", 2, "b", 3},
		{"a + b : c", 0, "(a + b)", 3}, {"a X b", 0, "a", 1}, {"a ! b", 0, "a", 1}, {"a = b", 0, "a", 1}, {"a U b R c G", 0, "(a U (b R c))", 5}, {"a == b U c == b U a", 4, "(c == b)", 0},
	} {
		l, _, _ := lex.Tokens(x.text)
		got, behind, e, at := Parse(l, x.at, abc)
		if x.behind == 0 {
			if text := Show(got, abc); text != "((c == b) U a)" || behind != len(l)-1 {
				t.Error(i, text, behind)
			}
			continue
		}
		if text := Show(got, abc); text != x.want || behind != x.behind || e != api.OK || at != 0 {
			t.Error(i, text, behind, e, at)
		}
	}
}

// P13.1: a part's place is that of its token, its number what it stands for; a name that is there twice is the first one.
func TestParts(t *testing.T) {
	l, _, _ := lex.Tokens(" (b + 12) * -c == a U X true")
	got, _, _, _ := Parse(l, 0, []string{"c", "b", "a", "b", "c"})
	num := func(n, at int) api.Expr { return api.Expr{Op: api.ENum, N: n, At: at} }
	name := func(n, at int) api.Expr { return api.Expr{Op: api.EVar, N: n, At: at} }
	want := api.Expr{Op: api.EUntil, At: 20, L: []api.Expr{
		{Op: api.EEq, At: 15, L: []api.Expr{
			{Op: api.EMul, At: 10, L: []api.Expr{
				{Op: api.EAdd, At: 4, L: []api.Expr{name(1, 2), num(12, 6)}},
				{Op: api.ENeg, At: 12, L: []api.Expr{name(0, 13)}},
			}},
			name(2, 18),
		}},
		{Op: api.ENext, At: 22, L: []api.Expr{{Op: api.ETrue, At: 24}}},
	}}
	if !reflect.DeepEqual(got, want) {
		t.Errorf("%+v", got)
	}
}

// P13.1: the first fault from the left, and its place.
func TestParseFaults(t *testing.T) {
	for i, x := range []struct {
		text string
		e    api.Errno
		at   int
	}{
		{"", api.ErrForm, 0}, {"   ", api.ErrForm, 3}, {"a +", api.ErrForm, 3}, {"a + )", api.ErrForm, 4}, {"(a", api.ErrForm, 2}, {"(a b)", api.ErrForm, 3}, {"()", api.ErrForm, 1},
		{"d", api.ErrName, 0}, {"a & d & )", api.ErrName, 4}, {"a & ) & d", api.ErrForm, 4}, {"a == var", api.ErrForm, 5}, {"U", api.ErrForm, 0}, {"proc", api.ErrForm, 0}, {"a U R b", api.ErrForm, 4},
		{"a + X b", api.ErrForm, 4}, {"- ! a", api.ErrForm, 2}, {"a == F b", api.ErrForm, 5}, {"! & a", api.ErrForm, 2}, {"a -> -> b", api.ErrForm, 5}, {"(a < b < c)", api.ErrForm, 7}, {"+ a", api.ErrForm, 0},
		{"a | | b", api.ErrForm, 4}, {"A", api.ErrName, 0}, {"x + trues", api.ErrName, 0},
	} {
		if got, behind, e, at := read(t, x.text); !reflect.DeepEqual(got, api.Expr{}) || behind != 0 || e != x.e || at != x.at {
			t.Errorf("%d %q: %v %d %d %d", i, x.text, got, behind, e, at)
		}
	}
}

// P13.1: how deep the five lines may be within one another.
func TestDeep(t *testing.T) {
	many := strings.Repeat
	for i, x := range []struct {
		text string
		e    api.Errno
		at   int
	}{
		{many("(", 63) + "a" + many(")", 63), api.OK, 0}, {many("(", 64) + "a" + many(")", 64), api.ErrBig, 64}, {many("(", 64) + ")", api.ErrBig, 64}, {many("(", 64), api.ErrBig, 64}, {many("(", 63) + ")", api.ErrForm, 63},
		{many("!", 315) + "a", api.OK, 0}, {many("!", 316) + "a", api.ErrBig, 316}, {many("!", 317) + "a", api.ErrBig, 317}, {many("!", 400) + "a", api.ErrBig, 317}, {many("!", 316) + "d", api.ErrBig, 316}, {many("!", 315) + "d", api.ErrName, 315},
		{many("-", 315) + "a", api.OK, 0}, {many("-", 316) + "a", api.ErrBig, 316}, {many("-", 316), api.ErrBig, 316}, {many("-", 315), api.ErrForm, 315},
		{many("a<->", 315) + "a", api.OK, 0}, {many("a<->", 316) + "a", api.ErrBig, 1264}, {many("a->", 315) + "a", api.OK, 0}, {many("a->", 316) + "a", api.ErrBig, 948},
		{many("a U ", 315) + "a", api.OK, 0}, {many("a U ", 316) + "a", api.ErrBig, 1264}, {many("a R ", 317) + ")", api.ErrBig, 1264}, {many("a R ", 315) + ")", api.ErrForm, 1260},
		{many("a + ", 9000) + "a", api.OK, 0}, {many("a & ", 9000) + "a", api.OK, 0}, {many("a | ", 9000) + "a", api.OK, 0}, {many("a * ", 9000) + "a", api.OK, 0},
		{many("(a) & ", 9000) + "a", api.OK, 0}, {many("X ", 315) + "a", api.OK, 0}, {"a & " + many("X ", 316) + "a", api.ErrBig, 636},
	} {
		if _, _, e, at := read(t, x.text); e != x.e || at != x.at {
			t.Error(i, e, at)
		}
	}
}

// P13.2: key words; trees that are the same but for places; how many parts.
func TestKeySameSize(t *testing.T) {
	for _, x := range strings.Fields("true false X F G U R var proc") {
		if !Key(x) {
			t.Error(x)
		}
	}
	for _, x := range []string{"", "x", "True", "vars", "XX", "f", "proc ", "<->"} {
		if Key(x) {
			t.Error(x)
		}
	}
	for _, x := range []struct {
		a, b string
		want bool
	}{{"a", " a", true}, {"a", "b", false}, {"a + b", "(a)+b", true}, {"a + b", "b + a", false}, {"a + 1", "a + 2", false}, {"a + b", "a - b", false}, {"! a", "X a", false}, {"! a", "a", false}, {"a & b & c", "(a & b) & c", true}, {"a & b & c", "a & (b & c)", false}, {"0", "a", false}} {
		if Same(tree(t, x.a), tree(t, x.b)) != x.want || Same(tree(t, x.b), tree(t, x.a)) != x.want {
			t.Error(x)
		}
	}
	if Same(api.Expr{Op: 99, L: []api.Expr{{}}}, api.Expr{Op: 99}) || !Same(api.Expr{L: []api.Expr{}}, api.Expr{}) || Size(api.Expr{Op: -1, L: make([]api.Expr, 3)}) != 4 {
		t.Error("of any")
	}
	for text, want := range map[string]int{"a": 1, "- a": 2, "(a)": 1, "a + b * 2 == c": 7, "G (a == 1 -> F b == 1)": 9} {
		if got := Size(tree(t, text)); got != want {
			t.Error(text, got)
		}
	}
}

// P13.3: types, and the first part that has none.
func TestType(t *testing.T) {
	for _, x := range []struct {
		text string
		want int
		e    api.Errno
		at   int
	}{
		{"1", api.YInt, api.OK, 0}, {"a", api.YInt, api.OK, 0}, {"-a + b * 2 - 1", api.YInt, api.OK, 0}, {"a < 1", api.YBool, api.OK, 0}, {"true", api.YBool, api.OK, 0}, {"false", api.YBool, api.OK, 0},
		{"!(a < 1) & true | a == b -> false <-> a >= 1", api.YBool, api.OK, 0}, {"X true", api.YTime, api.OK, 0}, {"a < 3 & G b == 1", api.YTime, api.OK, 0}, {"! F true", api.YTime, api.OK, 0}, {"true U F false", api.YTime, api.OK, 0}, {"X G true R true", api.YTime, api.OK, 0},
		{"1 + true", 0, api.ErrType, 2}, {"true == true", 0, api.ErrType, 5}, {"- true", 0, api.ErrType, 0}, {"! a", 0, api.ErrType, 0}, {"a & true", 0, api.ErrType, 2}, {"X 1", 0, api.ErrType, 0}, {"true U a", 0, api.ErrType, 5}, {"a < (b < c)", 0, api.ErrType, 2},
		{"(1 + true) * (2 - false)", 0, api.ErrType, 3}, {"(a & true) == (X true)", 0, api.ErrType, 3}, {"true == (X 1)", 0, api.ErrType, 9}, {"a == (F true)", 0, api.ErrType, 2}, {"1 + (X true)", 0, api.ErrType, 2}, {"G (1 + 1)", 0, api.ErrType, 0}, {"a -> true", 0, api.ErrType, 2}, {"true <-> a", 0, api.ErrType, 5}, {"a | b", 0, api.ErrType, 2},
	} {
		if y, e, at := Type(tree(t, x.text)); y != x.want || e != x.e || at != x.at {
			t.Errorf("%q %d %d %d", x.text, y, e, at)
		}
	}
}

// P13.4: what trees come to.
func TestEval(t *testing.T) {
	v := []int{5, -3}
	for text, want := range map[string]int{
		"7": 7, "a": 5, "b": -3, "c": 0, "a + b": 2, "a - b": 8, "a * b": -15, "- a": -5, "- - b": -3, "2 + 3 * 4 - 1": 13, "1 - 2 - 3": -4,
		"a == 5": 1, "a == b": 0, "a != b": 1, "a != 5": 0, "b < a": 1, "a < b": 0, "a < 5": 0, "a <= 5": 1, "a <= 4": 0, "a > b": 1, "b > a": 0, "a > 5": 0, "a >= 5": 1, "a >= 6": 0, "b >= a": 0,
		"true": 1, "false": 0, "! true": 0, "! false": 1, "true & true": 1, "true & false": 0, "false & true": 0, "false & false": 0, "true | true": 1, "true | false": 1, "false | true": 1, "false | false": 0,
		"true -> true": 1, "true -> false": 0, "false -> true": 1, "false -> false": 1, "true <-> true": 1, "true <-> false": 0, "false <-> true": 0, "false <-> false": 1,
		"c == 0 & !(a < b)": 1, "1073741824 * 1073741824 * 8 == -1073741824 * 1073741824 * 8": 1, "1073741824 * 1073741824 * 8 < 0": 1, "1073741824 * 1073741824 * 16": 0,
	} {
		if got := Eval(tree(t, text), v); got != want {
			t.Error(text, got)
		}
	}
	if got := Eval(tree(t, "a - b"), []int{math.MinInt, 1}); got != math.MaxInt {
		t.Error(got)
	}
	if got := Eval(tree(t, "a - b"), []int{0, math.MinInt}); got != math.MinInt {
		t.Error(got)
	}
	if got := Eval(tree(t, "-a"), []int{math.MinInt}); got != math.MinInt {
		t.Error(got)
	}
	if got := Eval(tree(t, "a + b"), []int{math.MaxInt, 1}); got != math.MinInt {
		t.Error(got)
	}
	if got := Eval(tree(t, "a + b + c"), nil); got != 0 {
		t.Error(got)
	}
	if got := Eval(tree(t, strings.Repeat("a + ", 20000)[:60000]+"a"), []int{2}); got != 2*15001 {
		t.Error(got)
	}
}

// P13.5, P13.6: what is shown is read as the same tree.
func TestShow(t *testing.T) {
	if got := Show(tree(t, "a<3&G!b==-1"), abc); got != "((a < 3) & (G (! (b == (- 1)))))" {
		t.Error(got)
	}
	if got := Show(tree(t, "a + 0"), []string{"first"}); got != "(first + 0)" {
		t.Error(got)
	}
	x := uint64(11)
	next := func(n int) int {
		x = x*6364136223846793005 + 1442695040888963407
		return int(x>>33) % n
	}
	var make func(deep int) api.Expr
	make = func(deep int) api.Expr {
		op := api.ENum + next(api.ERel)
		if deep == 0 {
			op = []int{api.ENum, api.EVar, api.ETrue, api.EFalse}[next(4)]
		}
		e := api.Expr{Op: op}
		switch op {
		case api.ENum:
			e.N = next(1 << 30)
		case api.EVar:
			e.N = next(3)
		case api.ETrue, api.EFalse:
		case api.ENeg, api.ENot, api.ENext, api.EFin, api.EGlob:
			e.L = []api.Expr{make(deep - 1)}
		default:
			e.L = []api.Expr{make(deep - 1), make(deep - 1)}
		}
		return e
	}
	for i := range 2000 {
		e := make(i % 9)
		text := Show(e, abc)
		if len(text) > api.MaxText {
			continue
		}
		l, _, _ := lex.Tokens(text)
		if got, behind, code, at := Parse(l, 0, abc); !Same(got, e) || behind != len(l)-1 || code != api.OK {
			t.Fatal(text, code, at)
		}
	}
}
