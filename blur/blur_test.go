package blur

import (
	"math"
	"reflect"
	"strconv"
	"testing"

	"scrutiny/api"
	"scrutiny/mix"
)

// of is a store with keys.
func of(m, k int, keys ...string) api.Blur {
	b, _ := New(m, k, 5)
	for _, x := range keys {
		b, _ = Insert(b, []byte(x))
	}
	return b
}

// P10.1: sizes that may be, and others; three rows of as many bytes as are asked for, all 0.
func TestNew(t *testing.T) {
	for i, x := range []struct {
		m, k, bytes int
		want        api.Errno
	}{
		{1, 1, 1, api.OK}, {8, 16, 1, api.OK}, {9, 1, 2, api.OK}, {1 << 22, 16, 1 << 19, api.OK},
		{0, 1, 0, api.ErrArg}, {1<<22 + 1, 1, 0, api.ErrArg}, {1, 0, 0, api.ErrArg}, {1, 17, 0, api.ErrArg}, {-1, 1, 0, api.ErrArg}, {math.MaxInt, math.MinInt, 0, api.ErrArg},
	} {
		b, e := New(x.m, x.k, 77)
		if e != x.want || Ones(b) != 0 || len(b.B[0]) != x.bytes || len(b.B[1]) != x.bytes || len(b.B[2]) != x.bytes {
			t.Error(i, e)
		}
		if e == api.OK && (b.M != x.m || b.K != x.k || b.Seed != 77 || Member(b, nil)) || e != api.OK && !reflect.DeepEqual(b, api.Blur{}) {
			t.Error(i, b.M, b.K, b.Seed)
		}
	}
}

// P10.1, P10.2: a key's bits are where the hash says, the lowest bit of a byte first.
func TestBits(t *testing.T) {
	b, _ := New(100, 3, 9)
	b, more := Insert(b, []byte("key"))
	want, ones := make([]byte, 13), 0
	for _, at := range mix.Places([]byte("key"), 9, 3, 100) {
		if want[at/8]&(1<<(at%8)) == 0 {
			ones++
		}
		want[at/8] |= 1 << (at % 8)
	}
	if !more || !reflect.DeepEqual(b.B[0], want) || Ones(b) != ones || ones < 2 {
		t.Error(more, b.B[0], want, Ones(b))
	}
	b, e := Set(b, []byte("key"), 1)
	if e != api.OK || !reflect.DeepEqual(b.B[2], want) || !reflect.DeepEqual(b.B[1], make([]byte, 13)) {
		t.Error(e, b.B)
	}
}

// P10.2: what is there is told so; a store of one bit takes all for the same.
func TestInsert(t *testing.T) {
	b, _ := New(1, 1, 0)
	b, one := Insert(b, []byte("a"))
	c, two := Insert(b, []byte("b"))
	if !one || two || !reflect.DeepEqual(b, c) || !Member(b, []byte("c")) || Ones(b) != 1 {
		t.Error(one, two, Ones(b))
	}
	// A key of which one bit alone is new is new.
	big := of(4096, 4)
	for i := range 400 {
		key := []byte(strconv.Itoa(i))
		fresh := false
		for _, at := range mix.Places(key, 5, 4, 4096) {
			fresh = fresh || big.B[0][at/8]&(1<<(at%8)) == 0
		}
		was := Member(big, key)
		u, more := Insert(big, key)
		if more != fresh || was == fresh || !Member(u, key) {
			t.Error(i, more, fresh)
		}
		big = u
	}
}

// P10.3: flags are asked and set: first the flag, then the key.
func TestFlags(t *testing.T) {
	b := of(1<<16, 3, "one", "two")
	for i, x := range []struct {
		key  string
		flag int
		want api.Errno
	}{{"one", 0, api.OK}, {"two", 1, api.OK}, {"six", 0, api.ErrNone}, {"six", 1, api.ErrNone}, {"one", 2, api.ErrArg}, {"one", -1, api.ErrArg}, {"six", 2, api.ErrArg}, {"six", math.MaxInt, api.ErrArg}} {
		u, e := Set(b, []byte(x.key), x.flag)
		is, d := Get(u, []byte(x.key), x.flag)
		no, _ := Get(b, []byte(x.key), x.flag)
		other, _ := Get(u, []byte(x.key), 1-x.flag)
		again, _ := Get(u, []byte(x.key), 1-x.flag)
		if again || e != x.want || d != x.want || is != (e == api.OK) || no || other || e != api.OK && !reflect.DeepEqual(u, b) {
			t.Error(i, e, d, is, no, other)
		}
	}
}

// P10.4, R3: what is there, or set, stays so, whatever comes; stores that were there stay as they were.
func TestStay(t *testing.T) {
	b, _ := New(300, 2, math.MaxUint64)
	ones := 0
	for i := range 60 {
		was, key := b, []byte(strconv.Itoa(i))
		kept := [3][]byte{}
		for row := range kept {
			kept[row] = append(kept[row], was.B[row]...)
		}
		b, _ = Insert(b, key)
		b, _ = Set(b, key, i%2)
		if !reflect.DeepEqual(was.B, kept) || Ones(b) < ones {
			t.Fatal(i)
		}
		ones = Ones(b)
		for j := range i + 1 {
			key := []byte(strconv.Itoa(j))
			is, e := Get(b, key, j%2)
			if !Member(b, key) || !is || e != api.OK {
				t.Fatal(i, j)
			}
		}
	}
}
