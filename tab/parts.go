package tab

import (
	"scrutiny/api"
	"scrutiny/expr"
	"scrutiny/nnf"
)

// isLit is the op of literals as parts, whatever they have in them.
const isLit = 0

// When a literal holds, if it has no variables.
const (
	never = iota
	always
	perhaps
)

// part is a part of a formula: how it is put together, and the numbers of its parts; or a literal.
type part struct {
	op, a, b int
	lit      api.Expr
	when     int
	not      int // the number of the literal that is the negation of this one; below 0: none
}

// numbered is a formula's parts by numbers: the same ones have one, and each stands behind its own parts.
type numbered struct {
	l    []part
	lits []int
	have map[[3]int]int
}

// number is the number of a part, which it gets, if it has none.
func (n *numbered) number(e api.Expr) int {
	if nnf.Lit(e) {
		return n.literal(e)
	}
	key := [3]int{e.Op, n.number(e.L[0])}
	if len(e.L) > 1 {
		key[2] = n.number(e.L[1])
	}
	i, ok := n.have[key]
	if !ok {
		i = len(n.l)
		n.have[key] = i
		n.l = append(n.l, part{op: key[0], a: key[1], b: key[2], not: -1})
	}
	return i
}

// literal is the number of a literal, which it gets, if it has none.
func (n *numbered) literal(e api.Expr) int {
	if i := n.find(func(x api.Expr) bool { return expr.Same(x, e) }); i >= 0 {
		return i
	}
	at := len(n.l)
	not := n.find(func(x api.Expr) bool { return negates(x, e) || negates(e, x) })
	if not >= 0 {
		n.l[not].not = at
	}
	n.l = append(n.l, part{op: isLit, lit: e, when: when(e), not: not})
	n.lits = append(n.lits, at)
	return at
}

// find is the number of the first literal that is meant; below 0: none is.
func (n *numbered) find(meant func(x api.Expr) bool) int {
	for _, i := range n.lits {
		if meant(n.l[i].lit) {
			return i
		}
	}
	return -1
}

// negates: is a literal the negation of another one?
func negates(a, b api.Expr) bool { return a.Op == api.ENot && expr.Same(a.L[0], b) }

// when tells when a literal holds.
func when(e api.Expr) int {
	if varies(e) {
		return perhaps
	}
	return expr.Eval(e, nil)
}

// varies: has an expression a variable?
func varies(e api.Expr) bool {
	for _, x := range e.L {
		if varies(x) {
			return true
		}
	}
	return e.Op == api.EVar
}
