package nnf

import (
	"scrutiny/api"
	"scrutiny/trees"
)

// turner makes formulas that are right. It stops where there would be too many parts: equivalences make them twice as
// many each time, so they can't be made first and counted then.
type turner struct {
	left int // how many parts there still may be; below 0: there would be more
}

// side is a part that is to be turned, and whether its negation is meant.
type side struct {
	e   api.Expr
	not bool
}

// turned is a formula, or its negation, that is right.
func turned(e api.Expr, not bool) (api.Expr, api.Errno) {
	t := &turner{left: api.MaxForm}
	out := t.turn(side{e, not})
	if t.left < 0 {
		return api.Expr{}, api.ErrBig
	}
	return out, api.OK
}

// turn makes what a side means.
func (t *turner) turn(s side) api.Expr {
	if t.left < 0 {
		return api.Expr{}
	}
	if Lit(s.e) {
		return t.literal(s)
	}
	return t.deed(s)()
}

// literal is a literal, or its negation; in memory of its own, since it may come out more than once.
func (t *turner) literal(s side) api.Expr {
	t.left--
	e := trees.Copied(s.e)
	if s.not {
		return api.Expr{Op: api.ENot, At: e.At, L: []api.Expr{e}}
	}
	return e
}

// join puts sides together.
func (t *turner) join(op, at int, sides ...side) api.Expr {
	t.left--
	out := api.Expr{Op: op, At: at}
	for _, s := range sides {
		out.L = append(out.L, t.turn(s))
	}
	return out
}

// deed is what is to be done with a side that is no literal.
func (t *turner) deed(s side) func() api.Expr {
	e, first := s.e, s.not
	switch e.Op {
	case api.ENot:
		return func() api.Expr { return t.turn(side{e.L[0], !s.not}) }
	case api.EIff:
		return func() api.Expr { return t.alike(e, s.not) }
	case api.ENext:
		return func() api.Expr { return t.join(api.ENext, e.At, side{e.L[0], s.not}) }
	case api.EFin, api.EGlob:
		return func() api.Expr { return t.ever(e, s.not) }
	case api.EImp:
		first = !first
		fallthrough
	default:
		return func() api.Expr { return t.join(way(e.Op, s.not), e.At, side{e.L[0], first}, side{e.L[1], s.not}) }
	}
}

// alike is an equivalence: both, or none of both; negated: one of both alone.
func (t *turner) alike(e api.Expr, not bool) api.Expr {
	a, b := e.L[0], e.L[1]
	t.left--
	return api.Expr{Op: api.EOr, At: e.At, L: []api.Expr{
		t.join(api.EAnd, e.At, side{a, false}, side{b, not}),
		t.join(api.EAnd, e.At, side{a, true}, side{b, !not}),
	}}
}

// ever is what holds some time, or always.
func (t *turner) ever(e api.Expr, not bool) api.Expr {
	op, ahead := way(e.Op, not), api.EFalse
	if op == api.EUntil {
		ahead = api.ETrue
	}
	return t.join(op, e.At, side{api.Expr{Op: ahead, At: e.At}, false}, side{e.L[0], not})
}

// way is how the parts of a part are put together, or, of its negation, their negations.
func way(op int, not bool) int {
	plain, other := op, op
	switch op {
	case api.EAnd:
		other = api.EOr
	case api.EImp:
		plain = api.EOr
		fallthrough
	case api.EOr:
		other = api.EAnd
	case api.EFin:
		plain = api.EUntil
		fallthrough
	case api.EUntil:
		other = api.ERel
	case api.EGlob:
		plain = api.ERel
		fallthrough
	case api.ERel:
		other = api.EUntil
	}
	if not {
		return other
	}
	return plain
}
