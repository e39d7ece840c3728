package bits

import (
	"math"
	"testing"

	"scrutiny/api"
)

// of is bits that a text of 0 and 1 tells.
func of(text string) api.Bits {
	w := api.Bits{}
	for i := range text {
		w, _ = Put(w, uint64(text[i]-'0'), 1)
	}
	return w
}

// text is bits as 0 and 1.
func text(w api.Bits) string {
	out := []byte{}
	for k := range w.N {
		out = append(out, '0'+w.B[k/8]>>(7-k%8)&1)
	}
	return string(out)
}

// P1.1: bits of any kind are told right or not.
func TestRight(t *testing.T) {
	for i, x := range []struct {
		w    api.Bits
		want bool
	}{
		{api.Bits{}, true},
		{api.Bits{B: []byte{}}, true},
		{api.Bits{B: []byte{0x80}, N: 1}, true},
		{api.Bits{B: []byte{0xff}, N: 8}, true},
		{api.Bits{B: []byte{0xff, 0xfe}, N: 15}, true},
		{api.Bits{N: -1}, false},
		{api.Bits{B: []byte{0}, N: -8}, false},
		{api.Bits{N: 1}, false},
		{api.Bits{B: []byte{0}}, false},
		{api.Bits{B: []byte{0x40}, N: 1}, false},
		{api.Bits{B: []byte{0x01}, N: 7}, false},
		{api.Bits{B: []byte{0, 0}, N: 8}, false},
		{api.Bits{B: []byte{0}, N: 9}, false},
		{api.Bits{N: math.MaxInt}, false},
		{api.Bits{N: math.MinInt}, false},
	} {
		if Right(x.w) != x.want {
			t.Error(i, x.w)
		}
	}
}

// P1.1: two are the same, if all of them is, whether they are right or not.
func TestSame(t *testing.T) {
	a := api.Bits{B: []byte{0xa0}, N: 3}
	for i, x := range []struct {
		a, b api.Bits
		want bool
	}{
		{a, api.Bits{B: []byte{0xa0}, N: 3}, true},
		{a, api.Bits{B: []byte{0xa0}, N: 4}, false},
		{a, api.Bits{B: []byte{0xa1}, N: 3}, false},
		{a, api.Bits{B: []byte{0xa0, 0}, N: 3}, false},
		{api.Bits{}, api.Bits{B: []byte{}}, true},
		{api.Bits{N: -1}, api.Bits{N: -1}, true},
	} {
		if Same(x.a, x.b) != x.want || Same(x.b, x.a) != x.want {
			t.Error(i)
		}
	}
}

// P1.1: how many bits a number has.
func TestWide(t *testing.T) {
	for n, want := range map[uint64]int{0: 0, 1: 1, 2: 2, 3: 2, 4: 3, 255: 8, 256: 9, 1 << 63: 64, math.MaxUint64: 64} {
		if got := Wide(n); got != want {
			t.Error(n, got)
		}
	}
}

// P1.2: a number is laid behind bits, its highest bit first.
func TestPut(t *testing.T) {
	for i, x := range []struct {
		w    string
		n    uint64
		wide int
		want string
	}{
		{"", 5, 3, "101"},
		{"101", 1, 2, "10101"},
		{"101", 0, 0, "101"},
		{"1111111", 3, 3, "1111111011"},
		{"", 1, 9, "000000001"},
	} {
		w, e := Put(of(x.w), x.n, x.wide)
		if e != api.OK || text(w) != x.want || !Right(w) {
			t.Error(i, text(w), e)
		}
	}
	if w, e := Put(api.Bits{}, math.MaxUint64, 64); e != api.OK || w.N != 64 || w.B[7] != 0xff {
		t.Error(w, e)
	}
}

// P1.2: what may not be put leaves the bits as they were; the width is looked at first.
func TestPutWrong(t *testing.T) {
	for i, x := range []struct {
		n    uint64
		wide int
		want api.Errno
	}{
		{8, 3, api.ErrRange}, {1, 0, api.ErrRange}, {math.MaxUint64, 63, api.ErrRange},
		{0, -1, api.ErrArg}, {1, -1, api.ErrArg}, {0, 65, api.ErrArg}, {math.MaxUint64, math.MaxInt, api.ErrArg},
	} {
		w, e := Put(of("101"), x.n, x.wide)
		if e != x.want || text(w) != "101" {
			t.Error(i, text(w), e)
		}
	}
}

// P1.3: a number is taken from anywhere.
func TestTake(t *testing.T) {
	w := of("10101100111")
	for i, x := range []struct {
		at, wide int
		n        uint64
		want     api.Errno
	}{
		{0, 3, 5, api.OK}, {3, 2, 1, api.OK}, {6, 5, 7, api.OK}, {0, 11, 0x567, api.OK}, {11, 0, 0, api.OK},
		{11, 1, 0, api.ErrNone}, {12, 0, 0, api.ErrNone}, {-1, 0, 0, api.ErrNone}, {-1, 2, 0, api.ErrNone}, {9, 3, 0, api.ErrNone},
		{math.MaxInt, 64, 0, api.ErrNone}, {math.MinInt, 1, 0, api.ErrNone},
		{0, 65, 0, api.ErrArg}, {0, -1, 0, api.ErrArg}, {-1, 65, 0, api.ErrArg},
	} {
		if n, e := Take(w, x.at, x.wide); n != x.n || e != x.want {
			t.Error(i, n, e)
		}
	}
}

// P1.4: bits, and then others.
func TestJoin(t *testing.T) {
	for _, a := range []string{"", "1", "101", "11111111", "010101010"} {
		for _, b := range []string{"", "0", "1", "0110", "10000001", "1111111110"} {
			if w := Join(of(a), of(b)); text(w) != a+b || !Right(w) {
				t.Error(a, b, text(w))
			}
		}
	}
}

// P1.5: what is put is taken, whatever stands around it; all stays right.
func TestPutTake(t *testing.T) {
	for _, ahead := range []string{"", "1", "0001", "1111111", "10110110", "110101101"} {
		for wide := range 65 {
			n := uint64(0x9e3779b97f4a7c15) >> (64 - wide)
			w, e := Put(of(ahead), n, wide)
			w, _ = Put(w, 0x35, 6)
			if got, d := Take(w, len(ahead), wide); e != api.OK || d != api.OK || got != n || !Right(w) {
				t.Error(ahead, wide, got, e, d)
			}
			if j := Join(of(ahead), w); text(j) != ahead+text(w) {
				t.Error(ahead, wide)
			}
		}
	}
}

// R3: what is handed in stays as it was, and two that come of one don't meet.
func TestApart(t *testing.T) {
	b := make([]byte, 1, 16)
	b[0] = 0xa0
	w := api.Bits{B: b, N: 3}
	u, _ := Put(w, 0x1fff, 13)
	v, _ := Put(w, 0, 13)
	j := Join(w, u)
	if text(w) != "101" || text(u) != "1011111111111111" || text(v) != "1010000000000000" || text(j) != "101"+text(u) {
		t.Error(text(w), text(u), text(v), text(j))
	}
}
