package store

import (
	"fmt"
	"math"
	"reflect"
	"testing"

	"scrutiny/api"
	"scrutiny/blur"
	"scrutiny/schema"
)

// two are two ranges, of a few values.
var two = []api.Field{{Lo: 0, Hi: 5}, {Lo: -1, Hi: 1}}

// made is an empty store of two ranges.
func made(t *testing.T, kind, most int) api.Store {
	t.Helper()
	s, e := New(two, api.Opts{Kind: kind, Cap: most, M: 1 << 12, K: 3, Seed: 7})
	if e != api.OK {
		t.Fatal(kind, e)
	}
	return s
}

// P11.1: what may be a store, and what not.
func TestNew(t *testing.T) {
	wide := make([]api.Field, 17)
	for i := range wide {
		wide[i] = api.Field{Lo: -1 << 30, Hi: -1<<30 + 65535}
	}
	for kind := range 5 {
		for i, x := range []struct {
			s    []api.Field
			o    api.Opts
			want api.Errno
		}{
			{two, api.Opts{Cap: 0, M: 1, K: 1}, api.OK}, {two, api.Opts{Cap: 1 << 20, M: 1 << 22, K: 16, Stack: -7}, api.OK}, {wide, api.Opts{Cap: 3, M: 9, K: 2}, api.OK},
			{two, api.Opts{Cap: -1, M: 1, K: 1}, api.ErrArg}, {two, api.Opts{Cap: 1<<20 + 1, M: 1, K: 1}, api.ErrArg}, {two, api.Opts{Cap: math.MinInt, M: 1, K: 1}, api.ErrArg},
			{nil, api.Opts{Cap: 1, M: 1, K: 1}, api.ErrArg}, {append(wide[:17:17], two...), api.Opts{Cap: 1, M: 1, K: 1}, api.ErrArg}, {[]api.Field{{Lo: 1}}, api.Opts{Cap: 1, M: 1, K: 1}, api.ErrArg},
		} {
			x.o.Kind = kind
			s, e := New(x.s, x.o)
			if e != x.want || e != api.OK && !reflect.DeepEqual(s, api.Store{}) || e == api.OK && Many(s) != 0 {
				t.Error(kind, i, e)
			}
		}
	}
	for _, o := range []api.Opts{{Kind: 5, Cap: 1}, {Kind: -1, Cap: 1}, {Kind: api.KBlur, M: 0, K: 1}, {Kind: api.KBlur, M: 1<<22 + 1, K: 1}, {Kind: api.KBlur, M: 1, K: 0}, {Kind: api.KBlur, M: 1, K: 17}} {
		if s, e := New(two, o); e != api.ErrArg || !reflect.DeepEqual(s, api.Store{}) {
			t.Error(o, e)
		}
	}
	if _, e := New(two, api.Opts{Kind: api.KTree, M: -1, K: 99}); e != api.OK {
		t.Error("what only the lossy kind asks for", e)
	}
}

// P11.2: codes of each kind, in their order.
func TestCodes(t *testing.T) {
	for kind := range 5 {
		s := made(t, kind, 1)
		s, more, e := Insert(s, []int{3, 0})
		if !more || e != api.OK {
			t.Error(kind, more, e)
		}
		if _, more, e = Insert(s, []int{3, 0}); more || e != api.OK {
			t.Error(kind, more, e)
		}
		u, more, e := Insert(s, []int{4, 0})
		if lossy := kind == api.KBlur; more != lossy || (e == api.OK) != lossy || !lossy && (e != api.ErrFull || !reflect.DeepEqual(u, s)) {
			t.Error(kind, more, e)
		}
		for i, x := range []struct {
			v          []int
			flag       int
			insert, to api.Errno
		}{
			{[]int{6, 0}, 9, api.ErrRange, api.ErrRange}, {[]int{3}, 9, api.ErrArg, api.ErrArg}, {nil, 0, api.ErrArg, api.ErrArg}, {[]int{9, 9, 9}, 0, api.ErrArg, api.ErrArg}, {[]int{0, 2}, 0, api.ErrRange, api.ErrRange},
			{[]int{3, 0}, 2, api.OK, api.ErrArg}, {[]int{3, 0}, -1, api.OK, api.ErrArg}, {[]int{3, 0}, math.MaxInt, api.OK, api.ErrArg}, {[]int{5, 1}, 2, api.ErrFull, api.ErrArg}, {[]int{5, 1}, 0, api.ErrFull, api.ErrNone}, {[]int{3, 0}, 0, api.OK, api.OK},
		} {
			u, more, e := Insert(s, x.v)
			if kind == api.KBlur && x.insert == api.ErrFull {
				x.insert, more, u = api.OK, false, s
			}
			if more || e != x.insert || !reflect.DeepEqual(u, s) {
				t.Error(kind, i, "insert", more, e)
			}
			u, e = Set(s, x.v, x.flag)
			is, d := Get(u, x.v, x.flag)
			if e != x.to || d != x.to || is != (e == api.OK) || e != api.OK && !reflect.DeepEqual(u, s) {
				t.Error(kind, i, "flags", e, d, is)
			}
			is, e = Member(s, x.v)
			if want := x.insert; want == api.ErrFull || want == api.OK {
				want = api.OK
				if e != want || is != (len(x.v) == 2 && x.v[0] == 3 && x.v[1] == 0) {
					t.Error(kind, i, "member", is, e)
				}
			} else if e != want || is {
				t.Error(kind, i, "member", is, e)
			}
		}
	}
}

// act is one act in a store, and what it answers as a text.
func act(s api.Store, what int, v []int) (api.Store, string) {
	switch what {
	case 0, 1:
		u, e := Set(s, v, what)
		return u, fmt.Sprint("set", e)
	case 2, 3:
		is, e := Get(s, v, what-2)
		return s, fmt.Sprint("get", is, e)
	case 4:
		is, e := Member(s, v)
		return s, fmt.Sprint("member", is, e)
	}
	u, more, e := Insert(s, v)
	return u, fmt.Sprint("insert", more, e)
}

// P11.2, P11.3, R3: lossless kinds answer alike, act by act; stores that were there stay as they were.
func TestAlike(t *testing.T) {
	for most := 0; most < 20; most += 3 {
		stores, x := []api.Store{}, uint64(most)
		for kind := range api.KBlur {
			stores = append(stores, made(t, kind, most))
		}
		in := map[string]bool{}
		for range 600 {
			x = x*6364136223846793005 + 1442695040888963407
			v, what := []int{int(x>>33) % 7, int(x>>43)%4 - 1}, int(x>>53)%8
			want := ""
			for kind, s := range stores {
				u, text := act(s, what, v)
				if kind == 0 {
					want = text
				}
				if text != want || Many(u) != Many(stores[kind]) && text != "insert"+fmt.Sprint(true, api.OK) {
					t.Fatal(most, kind, v, text, want)
				}
				stores[kind] = u
			}
			if name := fmt.Sprint(v); what > 4 && schema.In(two, v) == api.OK {
				fits := in[name] || len(in) < most
				if want != "insert"+fmt.Sprint(!in[name] && fits, map[bool]api.Errno{true: api.OK, false: api.ErrFull}[fits]) {
					t.Fatal(most, v, want)
				}
				if fits {
					in[name] = true
				}
			}
			for kind, s := range stores {
				if Many(s) != len(in) {
					t.Fatal(kind, Many(s), len(in))
				}
			}
		}
	}
}

// P11.2, P11.3: the lossy kind says yes of all that was inserted, as the lossy store by itself does.
func TestLossy(t *testing.T) {
	for _, o := range []api.Opts{{Kind: api.KBlur, M: 1, K: 1}, {Kind: api.KBlur, M: 60, K: 2, Seed: 3}, {Kind: api.KBlur, M: 1 << 16, K: 5, Seed: math.MaxUint64}} {
		s, _ := New(two, o)
		b, _ := blur.New(o.M, o.K, o.Seed)
		for a := range 6 {
			for c := -1; c < 2; c++ {
				v := []int{a, c}
				k, _ := schema.Encode(two, v)
				var more, want bool
				var e api.Errno
				s, more, e = Insert(s, v)
				b, want = blur.Insert(b, k)
				is, d := Member(s, v)
				if more != want || e != api.OK || !is || d != api.OK || Many(s) != blur.Ones(b) {
					t.Error(o, v, more, want, e, is, d)
				}
				if a%2 == 0 {
					s, _ = Set(s, v, 1)
					b, _ = blur.Set(b, k, 1)
				}
				for flag := range 2 {
					is, e := Get(s, v, flag)
					want, _ := blur.Get(b, k, flag)
					if is != want || e != api.OK {
						t.Error(o, v, is, e)
					}
				}
			}
		}
	}
}

// R3: stores of each kind that come of one stay apart.
func TestApart(t *testing.T) {
	for kind := range 5 {
		base, _, _ := Insert(made(t, kind, 9), []int{1, 1})
		baseText := fmt.Sprint(base)
		one, _, _ := Insert(base, []int{2, 0})
		oneText := fmt.Sprint(one)
		two, _, _ := Insert(base, []int{3, 0})
		three, _ := Set(one, []int{2, 0}, 0)
		for a := range 6 {
			u, _, _ := Insert(one, []int{a, -1})
			Set(u, []int{a, -1}, 1)
			Get(u, []int{a, -1}, 0)
			Member(u, []int{a, 0})
		}
		if fmt.Sprint(base) != baseText || fmt.Sprint(one) != oneText {
			t.Error(kind, "written into")
		}
		a, _ := Member(base, []int{2, 0})
		b, _ := Member(one, []int{3, 0})
		c, _ := Member(two, []int{2, 0})
		d, _ := Get(one, []int{2, 0}, 0)
		e, _ := Get(three, []int{2, 0}, 0)
		f, _ := Get(three, []int{2, 0}, 1)
		if a || b || c || d || !e || f {
			t.Error(kind, a, b, c, d, e, f)
		}
	}
}

// R3: the ranges that a store was made of may be written into.
func TestOwnRanges(t *testing.T) {
	s := []api.Field{{Lo: 0, Hi: 5}}
	x, _ := New(s, api.Opts{Cap: 3})
	s[0].Hi = 1
	if _, more, e := Insert(x, []int{5}); !more || e != api.OK {
		t.Error(more, e)
	}
}
