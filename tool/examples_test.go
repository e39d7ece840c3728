package tool

import (
	"slices"
	"testing"

	"scrutiny/api"
	"scrutiny/bits"
	"scrutiny/check"
	"scrutiny/dfa"
	"scrutiny/expr"
	"scrutiny/lex"
	"scrutiny/nnf"
	"scrutiny/schema"
	"scrutiny/sem"
	"scrutiny/table"
)

// The document's ten examples of the whole.
func TestExamples(t *testing.T) {
	is := func(n int, ok bool) {
		t.Helper()
		if !ok {
			t.Error("example", n)
		}
	}
	w, _ := bits.Put(api.Bits{}, 5, 3)
	w, _ = bits.Put(w, 1, 2)
	is(1, string(w.B) == "\xa8" && w.N == 5)

	b, _ := schema.Encode([]api.Field{{Lo: 0, Hi: 5}, {Lo: -1, Hi: 1}}, []int{5, 0})
	is(2, string(b) == "\xa8")

	tab, _ := table.New(2)
	for i, key := range []string{"a", "b", "a"} {
		var at int
		tab, at, _, _ = table.Insert(tab, []byte(key))
		is(3, at == i%2)
	}

	d, _ := dfa.New(2)
	d, _, _ = dfa.Insert(d, []byte("ab"))
	d, _, _ = dfa.Insert(d, []byte("cb"))
	is(4, dfa.Size(d) == 3)

	l, _, _ := lex.Tokens("x1 <= 10")
	is(5, len(l) == 4 && l[0].Kind == api.TName && l[1].Kind == api.TSign && l[2].Kind == api.TNum && l[2].N == 10)

	read := func(text string) api.Expr {
		e, _, _ := check.Formula(text, []string{"a", "b"})
		return e
	}
	y, _, _ := expr.Type(read("a < 3 & G b == 1"))
	is(6, y == api.YTime)

	not, _ := nnf.Not(read("G a == 1"))
	is(7, expr.Show(not, []string{"a", "b"}) == "(true U (! (a == 1)))")
	is(8, sem.Holds(read("F G a == 1"), api.Word{V: [][]int{{0}, {1}}, Loop: 1}))

	v := check.Check("var x 0 2 0; proc P { x < 2 : x = x + 1; }", "F x == 2", api.Opts{Cap: 9, Stack: 9})
	is(9, v.Kind == api.VHolds)

	rows := Run("plain 9 9\nG x < 1\nvar x 0 1 0; proc P { true : x = 1; }")
	is(10, slices.Contains([]string{"violated\n- 0\n- 1\no 1\n", "violated\n- 0\no 1\n"}, rows))
}
