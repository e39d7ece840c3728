package comp

import (
	"fmt"
	"math"
	"reflect"
	"slices"
	"testing"

	"scrutiny/api"
)

// ranges are n ranges, each of another width.
func ranges(n int) []api.Field {
	s := []api.Field{}
	for i := range n {
		s = append(s, api.Field{Lo: -i, Hi: 3 + i*i})
	}
	return s
}

// of is a store of ranges and a cap, with vectors.
func of(s []api.Field, most int, l ...[]int) api.Comp {
	c, _ := New(s, most)
	for _, v := range l {
		c, _, _ = Insert(c, s, v)
	}
	return c
}

// P7.1: caps that may be, and others; how many vectors, and different parts.
func TestNew(t *testing.T) {
	for most, want := range map[int]api.Errno{0: api.OK, 1 << 20: api.OK, -1: api.ErrArg, 1<<20 + 1: api.ErrArg, math.MinInt: api.ErrArg} {
		c, e := New(ranges(3), most)
		if e != want || Many(c) != 0 || e == api.OK && !slices.Equal(Parts(c), []int{0, 0}) || e != api.OK && !reflect.DeepEqual(c, api.Comp{}) {
			t.Error(most, e, c)
		}
	}
	for n, want := range map[int]int{1: 1, 2: 1, 3: 2, 4: 2, 16: 8, 17: 9} {
		if c, _ := New(ranges(n), 3); len(Parts(c)) != want {
			t.Error(n, Parts(c))
		}
	}
	c := of(ranges(3), 9, []int{1, 2, 3}, []int{1, 2, 4}, []int{2, 2, 3}, []int{1, 2, 3})
	if Many(c) != 3 || !slices.Equal(Parts(c), []int{2, 2}) {
		t.Error(Many(c), Parts(c))
	}
	if c = of(ranges(3), 9, []int{1, 2, 3}, []int{1, 2, 4}); !slices.Equal(Parts(c), []int{1, 2}) {
		t.Error(Parts(c))
	}
}

// P7.2: vectors come once each, up to the cap; what isn't in its ranges is told first.
func TestInsert(t *testing.T) {
	s := ranges(3)
	c := of(s, 2)
	for i, x := range []struct {
		v    []int
		more bool
		e    api.Errno
	}{
		{[]int{1, 2, 3}, true, api.OK}, {[]int{1, 2, 3}, false, api.OK}, {[]int{1, 2, 8}, false, api.ErrRange}, {[]int{1, 2}, false, api.ErrArg},
		{[]int{2, 1, 3}, true, api.OK}, {[]int{0, 0, 0}, false, api.ErrFull}, {[]int{2, 1, 0}, false, api.ErrFull}, {[]int{1, 2, 3}, false, api.OK},
		{[]int{9, 2, 3}, false, api.ErrRange}, {nil, false, api.ErrArg}, {[]int{1, 2, 3, 4}, false, api.ErrArg},
	} {
		u, more, e := Insert(c, s, x.v)
		if more != x.more || e != x.e || !more && !reflect.DeepEqual(u, c) {
			t.Error(i, more, e)
		}
		c = u
		c, _ = Set(c, s, []int{1, 2, 3}, 1)
	}
	if !slices.Equal(Parts(c), []int{2, 1}) || Many(c) != 2 {
		t.Error(Parts(c), Many(c))
	}
	if is, e := Get(c, s, []int{2, 1, 3}, 1); is || e != api.OK {
		t.Error(is, e)
	}
}

// P7.3: what is asked of members and flags: the ranges first, then the flag, then the vector.
func TestFlags(t *testing.T) {
	s := ranges(2)
	c := of(s, 9, []int{1, 2}, []int{2, 1})
	for i, x := range []struct {
		v    []int
		flag int
		want api.Errno
	}{
		{[]int{1, 2}, 0, api.OK}, {[]int{2, 1}, 1, api.OK}, {[]int{2, 2}, 1, api.ErrNone}, {[]int{2, 2}, 2, api.ErrArg}, {[]int{1, 2}, -1, api.ErrArg},
		{[]int{9, 2}, 2, api.ErrRange}, {[]int{9, 2}, 0, api.ErrRange}, {[]int{1}, 2, api.ErrArg}, {[]int{1, 2, 3}, 0, api.ErrArg},
	} {
		u, e := Set(c, s, x.v, x.flag)
		is, d := Get(u, s, x.v, x.flag)
		if e != x.want || d != x.want || is != (e == api.OK) || e != api.OK && !reflect.DeepEqual(u, c) {
			t.Error(i, e, d, is)
		}
	}
	for i, x := range []struct {
		v    []int
		is   bool
		want api.Errno
	}{{[]int{1, 2}, true, api.OK}, {[]int{2, 1}, true, api.OK}, {[]int{1, 1}, false, api.OK}, {[]int{3, 3}, false, api.OK}, {[]int{9, 0}, false, api.ErrRange}, {nil, false, api.ErrArg}} {
		if is, e := Member(c, s, x.v); is != x.is || e != x.want {
			t.Error(i, is, e)
		}
	}
}

// P7.4: acts in any order, against plain maps; no more parts than vectors, and what is refused leaves all as it was.
func TestSet(t *testing.T) {
	for _, n := range []int{1, 2, 3, 5, 17} {
		s, x := ranges(n), uint64(n)
		c := of(s, 30)
		in, flags := map[string]bool{}, map[string]bool{}
		for range 1500 {
			v := make([]int, n)
			for i, f := range s {
				x = x*6364136223846793005 + 1442695040888963407
				v[i] = f.Lo + int(x>>40)%min(f.Hi-f.Lo+1, 4)
				if n > 3 && i > 2 {
					v[i] = f.Lo
				}
			}
			name := fmt.Sprint(v)
			was, parts := c, Parts(c)
			switch flag := int(x >> 62); flag {
			case 2, 3:
				u, more, e := Insert(c, s, v)
				full := !in[name] && len(in) == 30
				if more != (!in[name] && !full) || (e == api.ErrFull) != full {
					t.Fatal(name, more, e)
				}
				if full && !slices.Equal(parts, Parts(u)) {
					t.Fatal(parts, Parts(u))
				}
				if more {
					in[name] = true
				}
				c = u
			default:
				u, e := Set(c, s, v, flag)
				if (e == api.OK) != in[name] {
					t.Fatal(name, e)
				}
				flags[name+fmt.Sprint(flag)] = in[name]
				c = u
			}
			for flag := range 2 {
				is, _ := Get(c, s, v, flag)
				if is != flags[name+fmt.Sprint(flag)] {
					t.Fatal(name, flag, is)
				}
			}
			if Many(was) > Many(c) || Many(c) != len(in) || slices.Max(Parts(c)) > Many(c) {
				t.Fatal(Many(c), len(in), Parts(c))
			}
		}
	}
}

// P7.2, P7.4: parts of many different kinds are told apart.
func TestManyParts(t *testing.T) {
	s := []api.Field{{Lo: 0, Hi: 65535}, {Lo: 0, Hi: 1}, {Lo: 0, Hi: 65535}}
	c, _ := New(s, 1<<20)
	n := 70000
	vector := func(i int) []int { return []int{i % 65536, i / 65536, i % 65536} }
	for i := range n {
		u, more, e := Insert(c, s, vector(i))
		if !more || e != api.OK {
			t.Fatal(i, more, e)
		}
		c = u
	}
	if Many(c) != n || !slices.Equal(Parts(c), []int{n, 65536}) {
		t.Error(Many(c), Parts(c))
	}
	for i := range n {
		v := vector(i)
		is, _ := Member(c, s, v)
		v[2] = (v[2] + 256) % 65536
		no, _ := Member(c, s, v)
		v[2] = vector(i)[2]
		v[0] = (v[0] + 512) % 65536
		none, _ := Member(c, s, v)
		if !is || no || none {
			t.Fatal(i, is, no, none)
		}
	}
}

// R3: stores that come of one stay apart.
func TestApart(t *testing.T) {
	s := ranges(3)
	base := of(s, 9, []int{1, 2, 3})
	one, _, _ := Insert(base, s, []int{0, 0, 0})
	two, _, _ := Insert(base, s, []int{2, 2, 2})
	three, _ := Set(one, s, []int{1, 2, 3}, 0)
	for i, x := range []struct {
		c    api.Comp
		v    []int
		want bool
	}{{base, []int{0, 0, 0}, false}, {base, []int{2, 2, 2}, false}, {one, []int{0, 0, 0}, true}, {one, []int{2, 2, 2}, false}, {two, []int{0, 0, 0}, false}, {two, []int{2, 2, 2}, true}, {two, []int{1, 2, 3}, true}} {
		if is, _ := Member(x.c, s, x.v); is != x.want {
			t.Error(i, is)
		}
	}
	if is, _ := Get(one, s, []int{1, 2, 3}, 0); is {
		t.Error("set")
	}
	if is, _ := Get(three, s, []int{1, 2, 3}, 0); !is {
		t.Error("not set")
	}
}
