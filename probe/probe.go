// Package probe makes inputs for tests, always the same ones, and tells by the plainest means what is to come out.
package probe

import (
	"scrutiny/api"
	"scrutiny/expr"
)

// Dice is a row of numbers that look as if thrown; each row is told by where it begins.
type Dice uint64

// Roll is the next number, from 0 to less than n.
func (d *Dice) Roll(n int) int {
	*d = *d*6364136223846793005 + 1442695040888963407
	return int(*d>>33) % n
}

// Of is one of some numbers.
func (d *Dice) Of(l ...int) int { return l[d.Roll(len(l))] }

// Literal is a literal over so many variables, of small numbers.
func (d *Dice) Literal(vars int) api.Expr {
	switch d.Roll(8) {
	case 0:
		return api.Expr{Op: d.Of(api.ETrue, api.EFalse), At: d.Roll(99)}
	case 1:
		return api.Expr{Op: api.ENot, At: d.Roll(99), L: []api.Expr{d.Literal(vars)}}
	}
	return api.Expr{
		Op: d.Of(api.EEq, api.ENe, api.ELt, api.EGe),
		At: d.Roll(99),
		L:  []api.Expr{{Op: api.EVar, N: d.Roll(vars), At: d.Roll(99)}, {Op: api.ENum, N: d.Roll(3), At: d.Roll(99)}},
	}
}

// Formula is a formula over so many variables, at most so deep, of all the ways there are to put parts together.
func (d *Dice) Formula(vars, deep int) api.Expr {
	return d.build(vars, deep, []int{api.ENot, api.ENext, api.EFin, api.EGlob}, []int{api.EAnd, api.EOr, api.EImp, api.EIff, api.EUntil, api.ERel})
}

// Right is a formula that is right: of literals, and the five ways.
func (d *Dice) Right(vars, deep int) api.Expr {
	return d.build(vars, deep, []int{api.ENext}, []int{api.EAnd, api.EOr, api.EUntil, api.ERel})
}

func (d *Dice) build(vars, deep int, one, two []int) api.Expr {
	if deep == 0 || d.Roll(5) == 0 {
		return d.Literal(vars)
	}
	e := api.Expr{At: d.Roll(99)}
	if d.Roll(3) == 0 {
		e.Op = d.Of(one...)
		e.L = []api.Expr{d.build(vars, deep-1, one, two)}
		return e
	}
	e.Op = d.Of(two...)
	e.L = []api.Expr{d.build(vars, deep-1, one, two), d.build(vars, deep-1, one, two)}
	return e
}

// Automaton is an automaton of at most so many states, of any kind that is right.
func (d *Dice) Automaton(vars, most int) api.Aut {
	var a api.Aut
	n := 1 + d.Roll(most)
	some := func(many int) []int {
		var out []int
		for range d.Roll(many) {
			out = append(out, d.Roll(n))
		}
		return out
	}
	for range n {
		var l []api.Expr
		for range d.Roll(3) {
			l = append(l, d.Literal(vars))
		}
		a.Lits, a.Next = append(a.Lits, l), append(a.Next, some(5))
	}
	a.Init = some(4)
	for range d.Roll(4) {
		a.Acc = append(a.Acc, some(5))
	}
	return a
}

// Word is a word that goes round, of at most so many states, of small numbers.
func (d *Dice) Word(vars, most int) api.Word {
	w := api.Word{V: make([][]int, 1+d.Roll(most))}
	for i := range w.V {
		for range vars {
			w.V[i] = append(w.V[i], d.Roll(3))
		}
	}
	w.Loop = d.Roll(len(w.V))
	return w
}

// next is the place behind a place of a word.
func next(w api.Word, at int) int {
	if at+1 < len(w.V) {
		return at + 1
	}
	return w.Loop
}

// Holds says whether a formula holds of a word from a place on, by walking along the word, twice its length each time.
func Holds(e api.Expr, w api.Word, at int) bool {
	side := func(i, at int) bool { return Holds(e.L[i], w, at) }
	switch e.Op {
	case api.ENot:
		return !side(0, at)
	case api.EAnd:
		return side(0, at) && side(1, at)
	case api.EOr:
		return side(0, at) || side(1, at)
	case api.EImp:
		return !side(0, at) || side(1, at)
	case api.EIff:
		return side(0, at) == side(1, at)
	case api.ENext:
		return side(0, next(w, at))
	case api.EFin:
		return some(w, at, func(at int) bool { return side(0, at) }, nil)
	case api.EGlob:
		return !some(w, at, func(at int) bool { return !side(0, at) }, nil)
	case api.EUntil:
		return some(w, at, func(at int) bool { return side(1, at) }, func(at int) bool { return side(0, at) })
	case api.ERel:
		return !some(w, at, func(at int) bool { return !side(1, at) }, func(at int) bool { return !side(0, at) })
	}
	return expr.Eval(e, w.V[at]) == 1
}

// some: is there a place from this one on that is meant, and up to it only such as may be ahead of it?
func some(w api.Word, at int, meant, ahead func(at int) bool) bool {
	for range 2 * len(w.V) {
		if meant(at) {
			return true
		}
		if ahead != nil && !ahead(at) {
			return false
		}
		at = next(w, at)
	}
	return false
}
