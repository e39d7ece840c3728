package table

import (
	"bytes"
	"encoding/binary"
	"fmt"
	"math"
	"reflect"
	"strconv"
	"testing"

	"scrutiny/api"
)

// of is a table of a cap, with keys.
func of(most int, keys ...string) api.Table {
	t, _ := New(most)
	for _, k := range keys {
		t, _, _, _ = Insert(t, []byte(k))
	}
	return t
}

// texts are a table's keys as texts.
func texts(t api.Table) []string {
	out := []string{}
	for _, k := range Keys(t) {
		out = append(out, string(k))
	}
	return out
}

// is: has a table just these keys, in order, each in its place?
func is(t *testing.T, what string, tab api.Table, keys ...string) {
	t.Helper()
	if Many(tab) != len(keys) || !reflect.DeepEqual(texts(tab), append([]string{}, keys...)) {
		t.Error(what, Many(tab), texts(tab), keys)
	}
	for i, k := range keys {
		at, ok := Find(tab, []byte(k))
		key, e := Key(tab, i)
		if at != i || !ok || e != api.OK || string(key) != k {
			t.Error(what, k, at, ok, string(key), e)
		}
	}
}

// P4.1: caps that may be, and others.
func TestNew(t *testing.T) {
	for most, want := range map[int]api.Errno{0: api.OK, 1: api.OK, 1 << 20: api.OK, -1: api.ErrArg, 1<<20 + 1: api.ErrArg, math.MaxInt: api.ErrArg, math.MinInt: api.ErrArg} {
		tab, e := New(most)
		if e != want || Many(tab) != 0 || len(Keys(tab)) != 0 || e != api.OK && !reflect.DeepEqual(tab, api.Table{}) {
			t.Error(most, e, tab)
		}
	}
}

// P4.2: what is there is found, and nothing else.
func TestFind(t *testing.T) {
	tab := of(9, "a", "", "ab", "\x00", "a\x00")
	is(t, "five", tab, "a", "", "ab", "\x00", "a\x00")
	for _, k := range []string{"b", "\x00\x00", "abc", "ba"} {
		if at, ok := Find(tab, []byte(k)); at != 0 || ok {
			t.Error(k, at, ok)
		}
	}
	for _, i := range []int{-1, 5, 6, math.MaxInt, math.MinInt} {
		if k, e := Key(tab, i); k != nil || e != api.ErrNone {
			t.Error(i, k, e)
		}
	}
	if at, ok := Find(of(3), nil); at != 0 || ok {
		t.Error(at, ok)
	}
	if at, ok := Find(tab, nil); at != 1 || !ok {
		t.Error(at, ok)
	}
}

// P4.3: keys come in order, once each, up to the cap.
func TestInsert(t *testing.T) {
	tab := of(2)
	for i, x := range []struct {
		key  string
		at   int
		more bool
		e    api.Errno
	}{{"a", 0, true, api.OK}, {"b", 1, true, api.OK}, {"a", 0, false, api.OK}, {"c", 0, false, api.ErrFull}, {"b", 1, false, api.OK}, {"", 0, false, api.ErrFull}} {
		was := tab
		var at int
		var more bool
		var e api.Errno
		tab, at, more, e = Insert(tab, []byte(x.key))
		if at != x.at || more != x.more || e != x.e || !more && !reflect.DeepEqual(tab, was) {
			t.Error(i, at, more, e)
		}
	}
	is(t, "full", tab, "a", "b")
	none := of(0)
	if u, at, more, e := Insert(none, []byte("a")); at != 0 || more || e != api.ErrFull || Many(u) != 0 {
		t.Error(at, more, e)
	}
}

// P4.4: keys keep their places, however many come, and whatever their hashes share.
func TestMany(t *testing.T) {
	const n = 20000
	tab, keys := of(n), []string{}
	for i := range n {
		k := strconv.Itoa(i * 7)
		keys = append(keys, k)
		u, at, more, e := Insert(tab, []byte(k))
		if at != i || !more || e != api.OK {
			t.Fatal(i, at, more, e)
		}
		tab = u
	}
	is(t, "many", tab, keys...)
	if _, _, _, e := Insert(tab, []byte("x")); e != api.ErrFull {
		t.Error(e)
	}
	is(t, "many, full", tab, keys...)
}

// P4.2, P4.3: keys of the same hash are told apart.
func TestSameHash(t *testing.T) {
	// No short keys of the same hash are known: records of three more keys are laid by hand, with the hash of the first.
	tab := of(9, "a")
	for i, k := range []string{"b", "c", "d"} {
		w := seek(tab, []byte("a"))
		w.hash = uint64(tab.Slot[len(tab.Slot)-1-fromHash])
		w.spot, w.many, w.told = spot{}, 0, [hashBits + 1]int{}
		w.pass(tab.Slot, len(tab.Slot)-1, hashBits)
		tab = api.Table{Cap: 9, Keys: append(tab.Keys[:i+1:i+1], []byte(k)), Slot: w.record(tab.Slot, i+1)}
	}
	if at, ok := Find(tab, []byte("a")); at != 0 || !ok {
		t.Error(at, ok)
	}
	w := seek(tab, []byte("a"))
	if w.told[hashBits] != len(tab.Slot)-1 {
		t.Error(w.told[hashBits], len(tab.Slot))
	}
	tab, at, more, e := Insert(tab, []byte("e"))
	if at != 4 || !more || e != api.OK {
		t.Error(at, more, e)
	}
	if at, ok := Find(tab, []byte("a")); at != 0 || !ok {
		t.Error(at, ok)
	}
}

// R3: tables that come of one another stay apart, in whatever order they go on.
func TestApart(t *testing.T) {
	base := of(9, "a", "b", "c")
	text := fmt.Sprint(base)
	defer func() {
		if fmt.Sprint(base) != text {
			t.Error("written into")
		}
	}()
	key := []byte("d")
	one, _, _, _ := Insert(base, key)
	key[0] = 'x'
	two, _, _, _ := Insert(base, []byte("e"))
	three, _, _, _ := Insert(base, []byte("d"))
	four, _, _, _ := Insert(one, []byte("f"))
	five, _, _, _ := Insert(one, []byte("g"))
	six, _, _, _ := Insert(two, []byte("f"))
	is(t, "base", base, "a", "b", "c")
	is(t, "one", one, "a", "b", "c", "d")
	is(t, "two", two, "a", "b", "c", "e")
	is(t, "three", three, "a", "b", "c", "d")
	is(t, "four", four, "a", "b", "c", "d", "f")
	is(t, "five", five, "a", "b", "c", "d", "g")
	is(t, "six", six, "a", "b", "c", "e", "f")
	if at, ok := Find(two, []byte("d")); at != 0 || ok {
		t.Error(at, ok)
	}
	Keys(base)[0][0] = 'z'
	k, _ := Key(base, 1)
	k[0] = 'z'
	is(t, "base", base, "a", "b", "c")
}

// R3: a tree of tables, each going on from one of those ahead, against plain lists.
func TestBranches(t *testing.T) {
	tabs, lists := []api.Table{of(12)}, [][]string{{}}
	x := uint64(1)
	for range 3000 {
		x = x*6364136223846793005 + 1442695040888963407
		i := int(x>>33) % len(tabs)
		k := binary.BigEndian.AppendUint16(nil, uint16(x>>50)%40)
		u, at, more, e := Insert(tabs[i], k)
		want := -1
		for j, l := range lists[i] {
			if l == string(k) {
				want = j
			}
		}
		switch {
		case want >= 0:
			if at != want || more || e != api.OK {
				t.Fatal(at, more, e)
			}
		case len(lists[i]) == 12:
			if at != 0 || more || e != api.ErrFull {
				t.Fatal(at, more, e)
			}
		default:
			if at != len(lists[i]) || !more || e != api.OK {
				t.Fatal(at, more, e)
			}
			lists = append(lists, append(append([]string{}, lists[i]...), string(k)))
			tabs = append(tabs, u)
		}
	}
	for i, l := range lists {
		is(t, strconv.Itoa(i), tabs[i], l...)
		for n := range 40 {
			k := binary.BigEndian.AppendUint16(nil, uint16(n))
			in := false
			for _, y := range l {
				in = in || bytes.Equal([]byte(y), k)
			}
			if _, ok := Find(tabs[i], k); ok != in {
				t.Fatal(i, n, ok)
			}
		}
	}
}
