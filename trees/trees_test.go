package trees

import (
	"reflect"
	"testing"

	"scrutiny/api"
)

// Copies are the same, but for places where they are left out, and in memory of their own.
func TestCopies(t *testing.T) {
	tree := func(at int) api.Expr {
		return api.Expr{Op: api.EAdd, At: at, L: []api.Expr{{Op: api.EVar, N: 2, At: 2 * at}, {Op: api.ENeg, At: 3 * at, L: []api.Expr{{Op: api.ENum, N: 7, At: 4 * at}}}}}
	}
	e := tree(5)
	one, two, l := Copied(e), Bare(e), All([]api.Expr{e, e})
	if !reflect.DeepEqual(one, e) || !reflect.DeepEqual(two, tree(0)) || !reflect.DeepEqual(l, []api.Expr{e, e}) || len(All(nil)) != 0 {
		t.Error(one, two, l)
	}
	one.L[1].L[0].N, two.L[1].L[0].N, l[0].L[1].L[0].N = 9, 9, 9
	if !reflect.DeepEqual(e, tree(5)) || !reflect.DeepEqual(l[1], e) {
		t.Error(e)
	}
}
