package step

import (
	"math"
	"reflect"
	"slices"
	"testing"

	"scrutiny/api"
	"scrutiny/model"
	"scrutiny/schema"
)

// system is the system of a text.
func system(t *testing.T, text string) api.Model {
	t.Helper()
	m, e, at := model.Parse(text)
	if e != api.OK {
		t.Fatal(text, e, at)
	}
	return m
}

const (
	count = "var x 0 2 0; proc P { x < 2 : x = x + 1; }"
	swap  = "var a 0 3 1; var b 0 3 2; proc P { true : a = b, b = a; a == 1 : b = 3; } proc Q { b > 0 : b = b - 1; a < b : a = b; b == 0 & a == 0 : a = 9; }"
)

// P15.1: enabled commands, rising.
func TestEnabled(t *testing.T) {
	m := system(t, swap)
	for i, x := range []struct{ v, want []int }{{[]int{1, 2}, []int{0, 1, 2, 3}}, {[]int{0, 0}, []int{0, 4}}, {[]int{1, 0}, []int{0, 1}}, {[]int{3, 1}, []int{0, 2}}} {
		if got := Enabled(m, x.v); !slices.Equal(got, x.want) {
			t.Error(i, got)
		}
	}
	if got := Enabled(system(t, count), []int{2}); len(got) != 0 {
		t.Error(got)
	}
}

// P15.1: what a command makes, all at once, whether its guard holds or not; what there isn't comes first.
func TestFire(t *testing.T) {
	m := system(t, swap)
	for i, x := range []struct {
		v    []int
		k    int
		want []int
		e    api.Errno
	}{
		{[]int{1, 2}, 0, []int{2, 1}, api.OK}, {[]int{3, 3}, 1, []int{3, 3}, api.OK}, {[]int{0, 1}, 1, []int{0, 3}, api.OK}, {[]int{1, 2}, 2, []int{1, 1}, api.OK}, {[]int{1, 0}, 2, nil, api.ErrBounds},
		{[]int{1, 2}, 4, nil, api.ErrBounds}, {[]int{1, 2}, 5, nil, api.ErrNone}, {[]int{1, 2}, -1, nil, api.ErrNone}, {[]int{1, 2}, math.MaxInt, nil, api.ErrNone},
	} {
		v := slices.Clone(x.v)
		if got, e := Fire(m, v, x.k); !slices.Equal(got, x.want) || e != x.e || !slices.Equal(v, x.v) {
			t.Error(i, got, e, v)
		}
	}
	// What goes round at 2^64 is in its range again.
	round := system(t, "var x 0 1 0; proc P { true : x = 1073741824 * 1073741824 * 16 + 1; }")
	if got, e := Fire(round, []int{0}, 0); !slices.Equal(got, []int{1}) || e != api.OK {
		t.Error(got, e)
	}
}

// P15.2: states that come, each once, in the order in which they come first; the state alone, where none is enabled.
func TestNext(t *testing.T) {
	m := system(t, swap)
	for i, x := range []struct {
		v    []int
		want [][]int
		e    api.Errno
	}{
		{[]int{1, 2}, [][]int{{2, 1}, {1, 3}, {1, 1}, {2, 2}}, api.OK}, {[]int{0, 0}, nil, api.ErrBounds}, {[]int{1, 3}, [][]int{{3, 1}, {1, 3}, {1, 2}, {3, 3}}, api.OK}, {[]int{2, 2}, [][]int{{2, 2}, {2, 1}}, api.OK}, {[]int{2, 3}, [][]int{{3, 2}, {2, 2}, {3, 3}}, api.OK},
	} {
		if got, e := Next(m, x.v); !reflect.DeepEqual(got, x.want) || e != x.e {
			t.Error(i, got, e)
		}
	}
	v := []int{2}
	got, e := Next(system(t, count), v)
	if !reflect.DeepEqual(got, [][]int{{2}}) || e != api.OK {
		t.Error(got, e)
	}
	if got[0][0] = 0; v[0] != 2 {
		t.Error("not its own")
	}
}

// P15.3: states in the order in which they are reached; the first fault of both.
func TestReach(t *testing.T) {
	two := "var x 0 9 0; var y 0 9 0; proc P { x < 2 : x = x + 1; y < 1 : y = y + 1; "
	for i, x := range []struct {
		text string
		most int
		want [][]int
		e    api.Errno
		at   []int
	}{
		{count, 3, [][]int{{0}, {1}, {2}}, api.OK, nil}, {count, math.MaxInt, [][]int{{0}, {1}, {2}}, api.OK, nil}, {count, 2, nil, api.ErrFull, nil}, {count, 1, nil, api.ErrFull, nil}, {count, 0, nil, api.ErrFull, nil}, {count, -1, nil, api.ErrFull, nil}, {count, math.MinInt, nil, api.ErrFull, nil},
		{two + "}", 6, [][]int{{0, 0}, {1, 0}, {0, 1}, {2, 0}, {1, 1}, {2, 1}}, api.OK, nil}, {two + "}", 5, nil, api.ErrFull, nil},
		{two + "x == 1 & y == 1 : x = 10; }", 9, nil, api.ErrBounds, []int{1, 1}}, {two + "x == 1 & y == 1 : x = 10; }", 6, nil, api.ErrBounds, []int{1, 1}}, {two + "x == 1 & y == 1 : x = 10; }", 5, nil, api.ErrFull, nil},
		{two + "x == 0 & y == 0 : x = -1; }", 1, nil, api.ErrBounds, []int{0, 0}}, {two + "x == 0 & y == 0 : x = -1; }", 0, nil, api.ErrFull, nil}, {two + "x == 2 : x = 10; y == 1 : y = 10; }", 9, nil, api.ErrBounds, []int{0, 1}},
		{"var x 3 5 4;", 1, [][]int{{4}}, api.OK, nil},
	} {
		got, e, at := Reach(system(t, x.text), x.most)
		if !reflect.DeepEqual(got, x.want) || e != x.e || !slices.Equal(at, x.at) {
			t.Error(i, got, e, at)
		}
	}
}

// P15.4: each state leads to one at least; states that are reached lead just to such.
func TestClosed(t *testing.T) {
	m := system(t, "var a 0 4 1; var b -2 2 2; proc P { true : a = b * b; a > 2 : b = 2 - a; } proc Q { b > 0 : b = b - 1, a = b; a == 0 : a = 3; }")
	l, e, _ := Reach(m, 99)
	if e != api.OK || !slices.Equal(l[0], m.Init) {
		t.Fatal(l, e)
	}
	for i, v := range l {
		next, e := Next(m, v)
		if e != api.OK || len(next) == 0 || schema.In(m.Schema, v) != api.OK {
			t.Error(v, e)
		}
		for _, s := range next {
			if !slices.ContainsFunc(l, func(x []int) bool { return slices.Equal(x, s) }) {
				t.Error(v, s)
			}
		}
		if i > 0 && slices.ContainsFunc(l[:i], func(x []int) bool { return slices.Equal(x, v) }) {
			t.Error("twice", v)
		}
	}
}

// P15.3, R3: what is reached is in memory of its own.
func TestOwn(t *testing.T) {
	m := system(t, count)
	l, _, _ := Reach(m, 9)
	l[0][0] = 7
	if m.Init[0] != 0 {
		t.Error("changed")
	}
	bad := system(t, "var x 0 1 0; proc P { true : x = 2; }")
	_, _, at := Reach(bad, 9)
	at[0] = 7
	if bad.Init[0] != 0 {
		t.Error("changed")
	}
}
