package flat

import (
	"math"
	"reflect"
	"testing"

	"scrutiny/api"
)

// of is a store of a cap, with keys.
func of(most int, keys ...string) api.Flat {
	s, _ := New(most)
	for _, k := range keys {
		s, _, _ = Insert(s, []byte(k))
	}
	return s
}

// P6.1: caps that may be, and others; how many keys, and which.
func TestNew(t *testing.T) {
	for most, want := range map[int]api.Errno{0: api.OK, 1 << 20: api.OK, -1: api.ErrArg, 1<<20 + 1: api.ErrArg, math.MinInt: api.ErrArg} {
		if s, e := New(most); e != want || Many(s) != 0 || Member(s, nil) || e != api.OK && !reflect.DeepEqual(s, api.Flat{}) {
			t.Error(most, e)
		}
	}
	s := of(9, "a", "", "b", "a")
	if Many(s) != 3 || !Member(s, []byte("a")) || !Member(s, nil) || !Member(s, []byte("b")) || Member(s, []byte("c")) || Member(s, []byte("ab")) {
		t.Error(Many(s))
	}
}

// P6.2: keys come once each, up to the cap, without flags.
func TestInsert(t *testing.T) {
	s := of(2)
	for i, x := range []struct {
		key  string
		more bool
		e    api.Errno
	}{{"a", true, api.OK}, {"a", false, api.OK}, {"b", true, api.OK}, {"c", false, api.ErrFull}, {"b", false, api.OK}} {
		u, more, e := Insert(s, []byte(x.key))
		if more != x.more || e != x.e || !more && !reflect.DeepEqual(u, s) {
			t.Error(i, more, e)
		}
		s = u
		s, _ = Set(s, []byte("a"), 0)
	}
	for flag := range 2 {
		if is, e := Get(s, []byte("b"), flag); is || e != api.OK {
			t.Error(flag, is, e)
		}
	}
	if _, more, e := Insert(of(0), nil); more || e != api.ErrFull {
		t.Error(more, e)
	}
}

// P6.3: flags are asked and set; first the flag, then the key.
func TestFlags(t *testing.T) {
	s := of(9, "a", "b")
	for i, x := range []struct {
		key  string
		flag int
		want api.Errno
	}{{"a", 0, api.OK}, {"a", 1, api.OK}, {"c", 1, api.ErrNone}, {"a", 2, api.ErrArg}, {"a", -1, api.ErrArg}, {"c", 2, api.ErrArg}, {"c", math.MinInt, api.ErrArg}} {
		u, e := Set(s, []byte(x.key), x.flag)
		is, d := Get(u, []byte(x.key), x.flag)
		if e != x.want || d != x.want || is != (e == api.OK) || e != api.OK && !reflect.DeepEqual(u, s) {
			t.Error(i, e, d, is)
		}
	}
	u, _ := Set(s, []byte("a"), 1)
	one, _ := Get(u, []byte("a"), 1)
	zero, _ := Get(u, []byte("a"), 0)
	if _, e := Get(u, []byte("c"), 1); !one || zero || e != api.ErrNone {
		t.Error(one, zero, e)
	}
}

// P6.4, R3: a flag that is set stays so, no other one is by that, and stores that were there stay as they were.
func TestStay(t *testing.T) {
	keys := []string{"a", "b", "c", "d", "e"}
	s, have := of(5, keys[:3]...), map[string]bool{}
	for i, x := range []string{"b1", "a0", "c1", "d0", "b0", "e1", "a0"} {
		was := s
		s, _, _ = Insert(s, []byte(x[:1]))
		s, _ = Set(s, []byte(x[:1]), int(x[1]-'0'))
		for _, k := range keys {
			for flag := range 2 {
				name := k + string(rune('0'+flag))
				if is, _ := Get(was, []byte(k), flag); is != have[name] {
					t.Error(i, name, is)
				}
				if is, _ := Get(s, []byte(k), flag); is != (have[name] || name == x) {
					t.Error(i, name, is)
				}
			}
		}
		have[x] = true
	}
}
