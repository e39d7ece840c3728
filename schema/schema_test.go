package schema

import (
	"math"
	"slices"
	"testing"

	"scrutiny/api"
)

// many is n ranges that are the same.
func many(n int, f api.Field) []api.Field { return slices.Repeat([]api.Field{f}, n) }

// P2.1: which ranges are right.
func TestRight(t *testing.T) {
	one := api.Field{Lo: 0, Hi: 1}
	for i, x := range []struct {
		s    []api.Field
		want bool
	}{
		{many(1, one), true}, {many(17, one), true}, {nil, false}, {many(18, one), false},
		{many(1, api.Field{Lo: 5, Hi: 5}), true}, {many(1, api.Field{Lo: 5, Hi: 4}), false},
		{many(1, api.Field{Lo: 0, Hi: 65535}), true}, {many(1, api.Field{Lo: 0, Hi: 65536}), false},
		{many(1, api.Field{Lo: -1 << 30, Hi: -1 << 30}), true}, {many(1, api.Field{Lo: -1<<30 - 1, Hi: -1 << 30}), false},
		{many(1, api.Field{Lo: 1 << 30, Hi: 1 << 30}), true}, {many(1, api.Field{Lo: 1 << 30, Hi: 1<<30 + 1}), false},
		{many(1, api.Field{Lo: -1 << 30, Hi: 1 << 30}), false}, {many(1, api.Field{Lo: math.MinInt, Hi: math.MaxInt}), false},
		{append(many(3, one), api.Field{Lo: 1}), false},
	} {
		if Right(x.s) != x.want {
			t.Error(i, x.s)
		}
	}
}

// P2.1: how many bits and bytes.
func TestWide(t *testing.T) {
	for i, x := range []struct {
		s                 []api.Field
		wide, bits, bytes int
	}{
		{many(1, api.Field{Lo: 3, Hi: 3}), 0, 0, 1},
		{many(1, api.Field{Lo: -1, Hi: 0}), 1, 1, 1},
		{many(2, api.Field{Lo: -1, Hi: 1}), 2, 4, 1},
		{many(3, api.Field{Lo: 0, Hi: 7}), 3, 9, 2},
		{many(2, api.Field{Lo: 0, Hi: 15}), 4, 8, 1},
		{many(17, api.Field{Lo: -1 << 30, Hi: -1<<30 + 65535}), 16, 272, 34},
	} {
		if Wide(x.s[0]) != x.wide || Bits(x.s) != x.bits || Bytes(x.s) != x.bytes {
			t.Error(i, Wide(x.s[0]), Bits(x.s), Bytes(x.s))
		}
	}
}

// P2.2: a vector is in its ranges, or why not.
func TestIn(t *testing.T) {
	s := []api.Field{{Lo: 0, Hi: 5}, {Lo: -1, Hi: 1}}
	for i, x := range []struct {
		v    []int
		want api.Errno
	}{
		{[]int{0, -1}, api.OK}, {[]int{5, 1}, api.OK}, {[]int{6, 0}, api.ErrRange}, {[]int{-1, 0}, api.ErrRange},
		{[]int{0, -2}, api.ErrRange}, {[]int{0, 2}, api.ErrRange}, {[]int{math.MaxInt, math.MinInt}, api.ErrRange},
		{nil, api.ErrArg}, {[]int{0}, api.ErrArg}, {[]int{0, 0, 0}, api.ErrArg}, {[]int{9}, api.ErrArg},
	} {
		if e := In(s, x.v); e != x.want {
			t.Error(i, e)
		}
	}
}

// P2.3: a vector's bytes, or In's code.
func TestEncode(t *testing.T) {
	two := []api.Field{{Lo: 0, Hi: 5}, {Lo: -1, Hi: 1}}
	for i, x := range []struct {
		s    []api.Field
		v    []int
		want string
		e    api.Errno
	}{
		{two, []int{5, 0}, "\xa8", api.OK},
		{two, []int{0, -1}, "\x00", api.OK},
		{many(2, api.Field{Lo: 7, Hi: 7}), []int{7, 7}, "\x00", api.OK},
		{many(2, api.Field{Lo: -3, Hi: 252}), []int{-3, 252}, "\x00\xff", api.OK},
		{many(3, api.Field{Lo: 1, Hi: 8}), []int{8, 1, 8}, "\xe3\x80", api.OK},
		{two, []int{6, 0}, "", api.ErrRange},
		{two, []int{6}, "", api.ErrArg},
	} {
		if b, e := Encode(x.s, x.v); string(b) != x.want || e != x.e || (e != api.OK && b != nil) {
			t.Error(i, b, e)
		}
	}
}

// P2.4: bytes that no vector has are refused.
func TestDecode(t *testing.T) {
	two := []api.Field{{Lo: 0, Hi: 5}, {Lo: -1, Hi: 1}}
	for i, x := range []struct {
		s    []api.Field
		b    string
		want []int
		e    api.Errno
	}{
		{two, "\xa8", []int{5, 0}, api.OK},
		{two, "\xc0", nil, api.ErrForm},     // 6 is too much
		{two, "\x18", nil, api.ErrForm},     // so is 2
		{two, "\xa9", nil, api.ErrForm},     // a bit behind the last one
		{two, "", nil, api.ErrForm},         // too few bytes
		{two, "\xa8\x00", nil, api.ErrForm}, // too many
		{many(3, api.Field{Lo: 4, Hi: 4}), "\x00", []int{4, 4, 4}, api.OK},
		{many(3, api.Field{Lo: 4, Hi: 4}), "\x80", nil, api.ErrForm},
		{many(3, api.Field{Lo: 4, Hi: 4}), "", nil, api.ErrForm},
	} {
		if v, e := Decode(x.s, []byte(x.b)); !slices.Equal(v, x.want) || e != x.e {
			t.Error(i, v, e)
		}
	}
}

// P2.5: what is encoded is decoded, and all other bytes are none.
func TestRound(t *testing.T) {
	s := []api.Field{{Lo: -2, Hi: 4}, {Lo: 9, Hi: 9}, {Lo: 0, Hi: 2}}
	back := map[string]bool{}
	for a := -2; a <= 4; a++ {
		for c := range 3 {
			b, e := Encode(s, []int{a, 9, c})
			v, d := Decode(s, b)
			if e != api.OK || d != api.OK || !slices.Equal(v, []int{a, 9, c}) || back[string(b)] {
				t.Error(a, c, b, v, e, d)
			}
			back[string(b)] = true
		}
	}
	for n := range 256 {
		if v, e := Decode(s, []byte{byte(n)}); (e == api.OK) != back[string([]byte{byte(n)})] || e != api.OK && v != nil {
			t.Error(n, v, e)
		}
	}
	wide := many(17, api.Field{Lo: -1 << 30, Hi: -1<<30 + 65535})
	v := make([]int, 17)
	for i := range v {
		v[i] = -1<<30 + i*4099%65536
	}
	b, _ := Encode(wide, v)
	if w, e := Decode(wide, b); e != api.OK || !slices.Equal(w, v) || len(b) != 34 {
		t.Error(w, e)
	}
}
