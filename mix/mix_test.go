package mix

import (
	"math"
	"slices"
	"testing"
)

// plain is the hash, step by step as the document tells it.
func plain(b []byte, seed uint64) uint64 {
	h := seed ^ 0x9e3779b97f4a7c15
	for i := 0; i < len(b); i++ {
		h ^= uint64(b[i])
		h *= 0x100000001b3
	}
	h ^= h >> 29
	h *= 0xbf58476d1ce4e5b9
	h ^= h >> 32
	return h
}

// P3.1: the hash is the one that is asked for.
func TestHash(t *testing.T) {
	for _, b := range []string{"", "\x00", "a", "\xff\xff", "abc", "\x00\x00\x00", "the quick brown fox"} {
		for _, seed := range []uint64{0, 1, 42, 0x9e3779b97f4a7c15, math.MaxUint64} {
			if got := Hash([]byte(b), seed); got != plain([]byte(b), seed) {
				t.Errorf("%q %d %x", b, seed, got)
			}
		}
	}
	// Reckoned beside the program.
	for _, x := range []struct {
		b    string
		seed uint64
		want uint64
	}{
		{"", 0, 0xca009717f87d8879},
		{"", 7, 0xd4731f5af439324},
		{"a", 0, 0x466186a74791a071},
		{"ab", 1, 0x528962d5e4115f09},
		{"state", 18446744073709551615, 0x4c7a6b68bde2e71},
	} {
		if got := Hash([]byte(x.b), x.seed); got != x.want {
			t.Errorf("%q %d %x", x.b, x.seed, got)
		}
	}
}

// P3.2: remainders, and none where there are no places.
func TestPlace(t *testing.T) {
	for i, x := range []struct {
		h    uint64
		n    int
		want int
	}{{17, 5, 2}, {0, 5, 0}, {math.MaxUint64, 10, 5}, {9, 1, 0}, {9, 0, 0}, {9, -3, 0}, {9, math.MinInt, 0}, {math.MaxUint64, math.MaxInt, 1}} {
		if got := Place(x.h, x.n); got != x.want {
			t.Error(i, got)
		}
	}
}

// P3.2: one place for each seed from the first one on, that goes round.
func TestPlaces(t *testing.T) {
	b := []byte("key")
	for _, seed := range []uint64{0, 7, math.MaxUint64} {
		want := []int{Place(Hash(b, seed), 97), Place(Hash(b, seed+1), 97), Place(Hash(b, seed+2), 97)}
		if got := Places(b, seed, 3, 97); !slices.Equal(got, want) {
			t.Error(seed, got, want)
		}
	}
	if got := Places(b, 3, 1, 97); !slices.Equal(got, []int{Place(Hash(b, 3), 97)}) {
		t.Error(got)
	}
	if got := Places(b, 0, 0, 97); len(got) != 0 {
		t.Error(got)
	}
	if got := Places(b, 0, -5, 97); len(got) != 0 {
		t.Error(got)
	}
	if got := Places(b, 0, 2, 0); !slices.Equal(got, []int{0, 0}) {
		t.Error(got)
	}
}

// P3.3: a place is one of n, and the same again.
func TestSame(t *testing.T) {
	for n := 1; n < 40; n++ {
		for x := range 64 {
			l := Places([]byte{byte(x)}, uint64(x), 4, n)
			if slices.Min(l) < 0 || slices.Max(l) >= n || !slices.Equal(l, Places([]byte{byte(x)}, uint64(x), 4, n)) {
				t.Error(n, x, l)
			}
		}
	}
}
