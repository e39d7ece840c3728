package expr

import (
	"slices"

	"scrutiny/api"
)

// deepest is how deep lines are read within one another, at most.
const deepest = 5 * api.MaxDeep

// line reads what one line of the table of lines says.
type line func(*reader) api.Expr

// row is a line of parts with a sign between them: what stands on both sides, the parts that signs make, and whether
// there may be as many as one likes.
type row struct {
	left, right line
	ops         []int
	many        bool
}

// The lines that are rows.
const (
	rowIff = iota
	rowImp
	rowOr
	rowAnd
	rowUntil
	rowCmp
	rowSum
	rowProd
	rowsAll
)

// rows are the lines with signs between parts.
func rows() [rowsAll]row {
	return [rowsAll]row{
		rowIff:   {(*reader).imp, (*reader).iff, []int{api.EIff}, false},
		rowImp:   {(*reader).or, (*reader).imp, []int{api.EImp}, false},
		rowOr:    {(*reader).and, (*reader).and, []int{api.EOr}, true},
		rowAnd:   {(*reader).until, (*reader).until, []int{api.EAnd}, true},
		rowUntil: {(*reader).pre, (*reader).until, []int{api.EUntil, api.ERel}, false},
		rowCmp:   {(*reader).sum, (*reader).sum, []int{api.EEq, api.ENe, api.ELt, api.ELe, api.EGt, api.EGe}, false},
		rowSum:   {(*reader).prod, (*reader).prod, []int{api.EAdd, api.ESub}, true},
		rowProd:  {(*reader).neg, (*reader).neg, []int{api.EMul}, true},
	}
}

// reader reads tokens, from one on, up to the first fault.
type reader struct {
	l     []api.Token
	at    int
	names []string
	rows  [rowsAll]row
	deep  int
	code  api.Errno
	place int
}

// fail notes a fault at the token that is next.
func (r *reader) fail(code api.Errno) api.Expr {
	r.code, r.place = code, r.l[r.at].At
	return api.Expr{}
}

// sign is which of the parts the next token tells, or 0.
func (r *reader) sign(ops ...int) int {
	for _, op := range ops {
		if r.l[r.at].Text == marks[op] {
			return op
		}
	}
	return 0
}

// part is a part that the next token tells, which is left behind.
func (r *reader) part(op int, l ...api.Expr) api.Expr {
	e := api.Expr{Op: op, At: r.l[r.at].At, L: l}
	r.at++
	return e
}

// row reads a line of parts with signs between them.
func (r *reader) row(w row) api.Expr {
	e := w.left(r)
	for r.code == api.OK {
		op := r.sign(w.ops...)
		if op == 0 {
			break
		}
		whole := r.part(op)
		whole.L = []api.Expr{e, w.right(r)}
		e = whole
		if !w.many {
			break
		}
	}
	return e
}

// within reads a line that counts among those that are within one another.
func (r *reader) within(read line) api.Expr {
	if r.deep == deepest {
		return r.fail(api.ErrBig)
	}
	r.deep++
	e := read(r)
	r.deep--
	return e
}

// ahead reads what stands behind a sign that stands ahead of it, by the same line; or what has none.
func (r *reader) ahead(same, none line, ops ...int) api.Expr {
	op := r.sign(ops...)
	if op == 0 {
		return none(r)
	}
	e := r.part(op)
	e.L = []api.Expr{same(r)}
	return e
}

func (r *reader) iff() api.Expr {
	return r.within(func(r *reader) api.Expr { return r.row(r.rows[rowIff]) })
}

func (r *reader) imp() api.Expr {
	return r.within(func(r *reader) api.Expr { return r.row(r.rows[rowImp]) })
}

func (r *reader) or() api.Expr { return r.row(r.rows[rowOr]) }

func (r *reader) and() api.Expr { return r.row(r.rows[rowAnd]) }

func (r *reader) until() api.Expr {
	return r.within(func(r *reader) api.Expr { return r.row(r.rows[rowUntil]) })
}

func (r *reader) pre() api.Expr {
	return r.within(func(r *reader) api.Expr {
		return r.ahead((*reader).pre, (*reader).cmp, api.ENot, api.ENext, api.EFin, api.EGlob)
	})
}

func (r *reader) cmp() api.Expr { return r.row(r.rows[rowCmp]) }

func (r *reader) sum() api.Expr { return r.row(r.rows[rowSum]) }

func (r *reader) prod() api.Expr { return r.row(r.rows[rowProd]) }

func (r *reader) neg() api.Expr {
	return r.within(func(r *reader) api.Expr {
		return r.ahead((*reader).neg, (*reader).one, api.ENeg)
	})
}

func (r *reader) one() api.Expr {
	t := r.l[r.at]
	switch {
	case t.Kind == api.TNum:
		e := r.part(api.ENum)
		e.N = t.N
		return e
	case t.Text == "(":
		return r.bracketed()
	case t.Kind != api.TName:
		return r.fail(api.ErrForm)
	case Key(t.Text):
		op := r.sign(api.ETrue, api.EFalse)
		if op == 0 {
			return r.fail(api.ErrForm)
		}
		return r.part(op)
	}
	n := slices.Index(r.names, t.Text)
	if n < 0 {
		return r.fail(api.ErrName)
	}
	e := r.part(api.EVar)
	e.N = n
	return e
}

func (r *reader) bracketed() api.Expr {
	r.at++
	e := r.iff()
	if r.code != api.OK {
		return api.Expr{}
	}
	if r.l[r.at].Text != ")" {
		return r.fail(api.ErrForm)
	}
	r.at++
	return e
}

// Parse is the tree of tokens.
func Parse(l []api.Token, at int, names []string) (api.Expr, int, api.Errno, int) {
	r := &reader{l: l, at: at, names: names, rows: rows()}
	e := r.iff()
	if r.code != api.OK {
		return api.Expr{}, 0, r.code, r.place
	}
	return e, r.at, api.OK, 0
}
