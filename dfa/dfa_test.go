package dfa

import (
	"bytes"
	"math"
	"reflect"
	"slices"
	"sort"
	"strings"
	"testing"

	"scrutiny/api"
)

// of is a set of words.
func of(wide int, words ...string) api.Dfa {
	d, _ := New(wide)
	for _, w := range words {
		d, _, _ = Insert(d, []byte(w))
	}
	return d
}

// texts are a set's words as texts.
func texts(d api.Dfa) []string {
	out := []string{}
	for _, w := range Words(d) {
		out = append(out, string(w))
	}
	return out
}

// left counts what is left of beginnings, as the document says it.
func left(words []string) int {
	ends, beginnings := map[string][]string{}, map[string]bool{}
	for _, w := range words {
		for i := range len(w) + 1 {
			ends[w[:i]] = append(ends[w[:i]], w[i:])
			beginnings[w[:i]] = true
		}
	}
	sets := map[string]bool{}
	for b := range beginnings {
		l := slices.Clone(ends[b])
		sort.Strings(l)
		sets[strings.Join(l, "|")] = true
	}
	return len(sets)
}

// P9.1: lengths that may be, and others.
func TestNew(t *testing.T) {
	for wide, want := range map[int]api.Errno{1: api.OK, 64: api.OK, 0: api.ErrArg, 65: api.ErrArg, -1: api.ErrArg, math.MaxInt: api.ErrArg} {
		d, e := New(wide)
		if e != want || Many(d) != 0 || Size(d) != 0 || len(Words(d)) != 0 || Has(d, make([]byte, max(0, min(wide, 99)))) || e != api.OK && !reflect.DeepEqual(d, api.Dfa{}) {
			t.Error(wide, e)
		}
	}
}

// P9.1: words that are there, of any length that is asked; all of them, rising byte by byte.
func TestHas(t *testing.T) {
	d := of(2, "cb", "ab", "\xff\x00", "\x00\xff", "c\x80", "cb", "\x00\x00")
	if want := []string{"\x00\x00", "\x00\xff", "ab", "cb", "c\x80", "\xff\x00"}; !slices.Equal(texts(d), want) || Many(d) != len(want) {
		t.Errorf("%q", texts(d))
	}
	for w, want := range map[string]bool{"ab": true, "cb": true, "\x00\xff": true, "\xff\x00": true, "\x00\x00": true, "c\x80": true, "a": false, "": false, "abb": false, "aa": false, "\xff\xff": false, "ca": false} {
		if Has(d, []byte(w)) != want {
			t.Errorf("%q", w)
		}
	}
}

// P9.2: words come once each; others of another length don't.
func TestInsert(t *testing.T) {
	d := of(2)
	for i, x := range []struct {
		w    string
		more bool
		e    api.Errno
	}{{"ab", true, api.OK}, {"ab", false, api.OK}, {"a", false, api.ErrArg}, {"", false, api.ErrArg}, {"abc", false, api.ErrArg}, {"ba", true, api.OK}, {"ab", false, api.OK}} {
		u, more, e := Insert(d, []byte(x.w))
		if more != x.more || e != x.e || !more && !reflect.DeepEqual(u, d) {
			t.Error(i, more, e)
		}
		d = u
	}
	long := bytes.Repeat([]byte{7}, 64)
	d, more, e := Insert(of(64), long)
	if !more || e != api.OK || !Has(d, long) || Size(d) != 65 {
		t.Error(more, e, Size(d))
	}
}

// P9.3: how many sets are left.
func TestSize(t *testing.T) {
	for i, x := range []struct {
		words []string
		want  int
	}{{nil, 0}, {[]string{"ab"}, 3}, {[]string{"ab", "cb"}, 3}, {[]string{"ab", "cb", "cd"}, 4}, {[]string{"ab", "cb", "cd", "ad"}, 3}, {[]string{"ab", "ab"}, 3}, {[]string{"aa", "bb", "cc"}, 5}} {
		if d := of(2, x.words...); Size(d) != x.want {
			t.Error(i, Size(d))
		}
	}
}

// P9.4: in whatever order words come, the set and its size are the same; both are those of the words.
func TestOrders(t *testing.T) {
	x := uint64(3)
	next := func(n int) int {
		x = x*6364136223846793005 + 1442695040888963407
		return int(x>>33) % n
	}
	for round := range 200 {
		wide, words := 1+round%4, []string{}
		for range next(30) {
			w := make([]byte, wide)
			for i := range w {
				w[i] = byte(next(3))
			}
			words = append(words, string(w))
		}
		want := slices.Clone(words)
		sort.Strings(want)
		want = slices.Compact(want)
		for range 3 {
			for i := range words {
				j := i + next(len(words)-i)
				words[i], words[j] = words[j], words[i]
			}
			d := of(wide, words...)
			if !slices.Equal(texts(d), want) || Many(d) != len(want) || Size(d) != left(want) {
				t.Fatal(round, texts(d), want, Size(d), left(want))
			}
			for n := range 81 {
				w := []byte{byte(n % 3), byte(n / 3 % 3), byte(n / 9 % 3), byte(n / 27)}[:wide]
				if Has(d, w) != slices.Contains(want, string(w)) {
					t.Fatal(round, w)
				}
			}
		}
	}
}

// P9.3: free nodes are taken again, the least one first, and counted as what they are.
func TestFree(t *testing.T) {
	words := []string{}
	for n := range 256 {
		words = append(words, string([]byte{byte(n / 16), byte(n % 16)}))
	}
	d := of(2, words...)
	if Size(d) != 3 || len(d.Node)-len(d.Free) != 3 {
		t.Error(Size(d))
	}
	for at, n := range d.Node {
		if (n.Ref == 0) != slices.Contains(d.Free, at) {
			t.Error(at, n.Ref)
		}
	}
	u, _, _ := Insert(d, []byte{99, 0})
	if u.Node[slices.Min(d.Free)].Ref == 0 {
		t.Error("the least free node isn't taken first", d.Free)
	}
}

// R3: sets that come of one stay apart.
func TestApart(t *testing.T) {
	base := of(2, "ab", "cb", "cd")
	word := []byte("ad")
	one, _, _ := Insert(base, word)
	word[0] = 'x'
	two, _, _ := Insert(base, []byte("ee"))
	three, _, _ := Insert(base, []byte("eb"))
	for i, x := range []struct {
		d    api.Dfa
		want []string
		size int
	}{{base, []string{"ab", "cb", "cd"}, 4}, {one, []string{"ab", "ad", "cb", "cd"}, 3}, {two, []string{"ab", "cb", "cd", "ee"}, 5}, {three, []string{"ab", "cb", "cd", "eb"}, 4}} {
		if !slices.Equal(texts(x.d), x.want) || Size(x.d) != x.size {
			t.Error(i, texts(x.d), Size(x.d))
		}
	}
	Words(base)[0][0] = 'z'
	if !Has(base, []byte("ab")) {
		t.Error("changed")
	}
}
