package store

import (
	"scrutiny/api"
	"scrutiny/blur"
	"scrutiny/comp"
	"scrutiny/dfa"
	"scrutiny/flat"
	"scrutiny/schema"
	"scrutiny/tree"
)

// key is a vector's bytes.
func key(t api.Store, v []int) []byte {
	b, _ := schema.Encode(t.Schema, v)
	return b
}

// plain is what a plain store does.
type plain struct{}

func (plain) begin(t api.Store, o api.Opts) (out api.Store, e api.Errno) {
	t.Flat, e = flat.New(o.Cap)
	return t, e
}

func (plain) many(t api.Store) int { return flat.Many(t.Flat) }

func (plain) insert(t api.Store, v []int) (api.Store, bool, api.Errno) {
	s, more, e := flat.Insert(t.Flat, key(t, v))
	t.Flat = s
	return t, more, e
}

func (plain) member(t api.Store, v []int) bool { return flat.Member(t.Flat, key(t, v)) }

func (plain) set(t api.Store, v []int, flag int) (api.Store, api.Errno) {
	s, e := flat.Set(t.Flat, key(t, v), flag)
	t.Flat = s
	return t, e
}

func (plain) get(t api.Store, v []int, flag int) (bool, api.Errno) {
	return flat.Get(t.Flat, key(t, v), flag)
}

// collapsed is what a collapsed store does.
type collapsed struct{}

func (collapsed) begin(t api.Store, o api.Opts) (out api.Store, e api.Errno) {
	t.Comp, e = comp.New(t.Schema, o.Cap)
	return t, e
}

func (collapsed) many(t api.Store) int { return comp.Many(t.Comp) }

func (collapsed) insert(t api.Store, v []int) (api.Store, bool, api.Errno) {
	s, more, e := comp.Insert(t.Comp, t.Schema, v)
	t.Comp = s
	return t, more, e
}

func (collapsed) member(t api.Store, v []int) bool {
	is, _ := comp.Member(t.Comp, t.Schema, v)
	return is
}

func (collapsed) set(t api.Store, v []int, flag int) (api.Store, api.Errno) {
	s, e := comp.Set(t.Comp, t.Schema, v, flag)
	t.Comp = s
	return t, e
}

func (collapsed) get(t api.Store, v []int, flag int) (bool, api.Errno) {
	return comp.Get(t.Comp, t.Schema, v, flag)
}

// halved is what a tree store does.
type halved struct{}

func (halved) begin(t api.Store, o api.Opts) (out api.Store, e api.Errno) {
	t.Tree, e = tree.New(t.Schema, o.Cap)
	return t, e
}

func (halved) many(t api.Store) int { return tree.Many(t.Tree) }

func (halved) insert(t api.Store, v []int) (api.Store, bool, api.Errno) {
	s, more, e := tree.Insert(t.Tree, t.Schema, v)
	t.Tree = s
	return t, more, e
}

func (halved) member(t api.Store, v []int) bool {
	is, _ := tree.Member(t.Tree, t.Schema, v)
	return is
}

func (halved) set(t api.Store, v []int, flag int) (api.Store, api.Errno) {
	s, e := tree.Set(t.Tree, t.Schema, v, flag)
	t.Tree = s
	return t, e
}

func (halved) get(t api.Store, v []int, flag int) (bool, api.Errno) {
	return tree.Get(t.Tree, t.Schema, v, flag)
}

// words is what a store of words does: one set of all vectors' words, and one of those that have each flag.
type words struct{}

func (words) begin(t api.Store, _ api.Opts) (out api.Store, e api.Errno) {
	for i := range t.Dfa {
		if t.Dfa[i], e = dfa.New(schema.Bytes(t.Schema)); e != api.OK {
			return t, e
		}
	}
	return t, api.OK
}

func (words) many(t api.Store) int { return dfa.Many(t.Dfa[0]) }

func (k words) insert(t api.Store, v []int) (api.Store, bool, api.Errno) {
	if k.member(t, v) {
		return t, false, api.OK
	}
	if k.many(t) >= t.Cap {
		return t, false, api.ErrFull
	}
	d, more, e := dfa.Insert(t.Dfa[0], key(t, v))
	t.Dfa[0] = d
	return t, more, e
}

func (words) member(t api.Store, v []int) bool { return dfa.Has(t.Dfa[0], key(t, v)) }

// flagged is which set is of a flag, if there is such a flag and the vector.
func (k words) flagged(t api.Store, v []int, flag int) (int, api.Errno) {
	if flag < 0 || flag >= len(t.Dfa)-1 {
		return 0, api.ErrArg
	}
	if !k.member(t, v) {
		return 0, api.ErrNone
	}
	return 1 + flag, api.OK
}

func (k words) set(t api.Store, v []int, flag int) (api.Store, api.Errno) {
	at, e := k.flagged(t, v, flag)
	if e != api.OK {
		return t, e
	}
	t.Dfa[at], _, e = dfa.Insert(t.Dfa[at], key(t, v))
	return t, e
}

func (k words) get(t api.Store, v []int, flag int) (bool, api.Errno) {
	at, e := k.flagged(t, v, flag)
	return e == api.OK && dfa.Has(t.Dfa[at], key(t, v)), e
}

// lossy is what a lossy store does.
type lossy struct{}

func (lossy) begin(t api.Store, o api.Opts) (out api.Store, e api.Errno) {
	t.Blur, e = blur.New(o.M, o.K, o.Seed)
	return t, e
}

func (lossy) many(t api.Store) int { return blur.Ones(t.Blur) }

func (lossy) insert(t api.Store, v []int) (api.Store, bool, api.Errno) {
	b, more := blur.Insert(t.Blur, key(t, v))
	t.Blur = b
	return t, more, api.OK
}

func (lossy) member(t api.Store, v []int) bool { return blur.Member(t.Blur, key(t, v)) }

func (lossy) set(t api.Store, v []int, flag int) (api.Store, api.Errno) {
	b, e := blur.Set(t.Blur, key(t, v), flag)
	t.Blur = b
	return t, e
}

func (lossy) get(t api.Store, v []int, flag int) (bool, api.Errno) {
	return blur.Get(t.Blur, key(t, v), flag)
}
