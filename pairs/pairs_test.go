package pairs

import (
	"math"
	"reflect"
	"testing"

	"scrutiny/api"
)

type pair [2]uint32

// of is a table of a cap, with pairs.
func of(most int, l ...pair) api.Pairs {
	p, _ := New(most)
	for _, x := range l {
		p, _, _, _ = Insert(p, x[0], x[1])
	}
	return p
}

// P5.1: caps that may be, and others.
func TestNew(t *testing.T) {
	for most, want := range map[int]api.Errno{0: api.OK, 1 << 20: api.OK, -1: api.ErrArg, 1<<20 + 1: api.ErrArg, math.MinInt: api.ErrArg} {
		if p, e := New(most); e != want || Many(p) != 0 || e != api.OK && !reflect.DeepEqual(p, api.Pairs{}) {
			t.Error(most, e)
		}
	}
	if n := Many(of(9, pair{1, 2}, pair{1, 2}, pair{2, 1})); n != 2 {
		t.Error(n)
	}
}

// P5.2, P5.4: pairs are found, by their places, too; the other way round is another one.
func TestFind(t *testing.T) {
	l := []pair{{1, 2}, {2, 1}, {0, 0}, {math.MaxUint32, 0}, {0, math.MaxUint32}, {0x01020304, 0x05060708}, {7, 7}}
	p := of(9, l...)
	for i, x := range l {
		at, ok := Find(p, x[0], x[1])
		a, b, e := Pair(p, i)
		if at != i || !ok || a != x[0] || b != x[1] || e != api.OK {
			t.Error(i, at, ok, a, b, e)
		}
	}
	for _, x := range []pair{{0x05060708, 0x01020304}, {1, 1}, {2, 2}, {0, 1}, {256, 0}, {math.MaxUint32, math.MaxUint32}} {
		if at, ok := Find(p, x[0], x[1]); at != 0 || ok {
			t.Error(x, at, ok)
		}
	}
	for _, i := range []int{-1, 7, math.MaxInt} {
		if a, b, e := Pair(p, i); a != 0 || b != 0 || e != api.ErrNone {
			t.Error(i, a, b, e)
		}
	}
}

// P5.3, P5.4: pairs come in order, once each, up to the cap; a pair of two that are the same has no other way round.
func TestInsert(t *testing.T) {
	p := of(3)
	for i, x := range []struct {
		a, b uint32
		at   int
		more bool
		e    api.Errno
	}{{1, 2, 0, true, api.OK}, {2, 1, 1, true, api.OK}, {1, 2, 0, false, api.OK}, {5, 5, 2, true, api.OK}, {5, 5, 2, false, api.OK}, {5, 1, 0, false, api.ErrFull}, {2, 1, 1, false, api.OK}} {
		was := p
		var at int
		var more bool
		var e api.Errno
		p, at, more, e = Insert(p, x.a, x.b)
		if at != x.at || more != x.more || e != x.e || !more && !reflect.DeepEqual(p, was) {
			t.Error(i, at, more, e)
		}
	}
}

// R3: tables that come of one stay apart.
func TestApart(t *testing.T) {
	base := of(9, pair{1, 2})
	one, two := base, base
	one, _, _, _ = Insert(one, 3, 4)
	two, _, _, _ = Insert(two, 5, 6)
	a, b, _ := Pair(one, 1)
	c, d, _ := Pair(two, 1)
	if a != 3 || b != 4 || c != 5 || d != 6 || Many(base) != 1 {
		t.Error(a, b, c, d, Many(base))
	}
	if _, ok := Find(one, 5, 6); ok {
		t.Error("found")
	}
}
