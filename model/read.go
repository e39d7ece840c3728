package model

import (
	"slices"

	"scrutiny/api"
	"scrutiny/expr"
	"scrutiny/schema"
)

// fault is what a reader panics with: the first code, and its place in the text.
type fault struct {
	code api.Errno
	at   int
}

// reader reads tokens, and makes a system of them.
type reader struct {
	l  []api.Token
	at int
	m  api.Model
}

// item is a kind of items: the word that it begins with, and what reads all that stands behind that.
type item struct {
	word string
	rest func()
}

// token is the next token.
func (r *reader) token() api.Token { return r.l[r.at] }

// fail ends it with a code, at the next token.
func (r *reader) fail(code api.Errno) { panic(fault{code, r.token().At}) }

// is: is the next token this sign, or word? If so, it is left behind.
func (r *reader) is(text string) bool {
	if r.token().Text != text {
		return false
	}
	r.at++
	return true
}

// must leaves a sign behind.
func (r *reader) must(text string) {
	if !r.is(text) {
		r.fail(api.ErrForm)
	}
}

// kind is the next token, which must be of that kind; it isn't left behind.
func (r *reader) kind(kind int) api.Token {
	if r.token().Kind != kind {
		r.fail(api.ErrForm)
	}
	return r.token()
}

// system reads all items.
func (r *reader) system() {
	items := []item{{"var", r.variable}, {"proc", r.process}}
	for r.token().Kind != api.TEnd {
		i := slices.IndexFunc(items, func(x item) bool { return r.is(x.word) })
		if i < 0 {
			r.fail(api.ErrForm)
		}
		items[i].rest()
	}
	if len(r.m.Names) == 0 {
		r.fail(api.ErrForm)
	}
}

// given is a name that is given to a variable or a process; it isn't left behind.
func (r *reader) given() string {
	name := r.kind(api.TName).Text
	if expr.Key(name) || slices.Contains(r.m.Names, name) || slices.Contains(r.m.Procs, name) {
		r.fail(api.ErrName)
	}
	return name
}

// number reads a number, with a sign or not.
func (r *reader) number() int {
	sign := 1
	if r.is("-") {
		sign = -1
	}
	n := r.kind(api.TNum).N
	r.at++
	return sign * n
}

// variable reads what stands behind `var`.
func (r *reader) variable() {
	name := r.given()
	if len(r.m.Names) == api.MaxVars {
		r.fail(api.ErrBig)
	}
	r.at++
	first := r.token().At
	lo := r.number()
	hi := r.number()
	init := r.number()
	r.must(";")
	f := []api.Field{{Lo: lo, Hi: hi}}
	if !schema.Right(f) || schema.In(f, []int{init}) != api.OK {
		panic(fault{api.ErrRange, first})
	}
	r.m.Names = append(r.m.Names, name)
	r.m.Schema = append(r.m.Schema, f...)
	r.m.Init = append(r.m.Init, init)
}

// process reads what stands behind `proc`.
func (r *reader) process() {
	r.m.Procs = append(r.m.Procs, r.given())
	r.at++
	r.must("{")
	for !r.is("}") {
		if len(r.m.Cmd) == api.MaxCmds {
			r.fail(api.ErrBig)
		}
		r.m.Cmd = append(r.m.Cmd, r.command())
	}
}

// command reads a command of the last process.
func (r *reader) command() api.Cmd {
	c := api.Cmd{Proc: len(r.m.Procs) - 1, Guard: r.expression(api.YBool)}
	r.must(":")
	c.Set = append(c.Set, r.assignment(c.Set))
	for r.is(",") {
		c.Set = append(c.Set, r.assignment(c.Set))
	}
	r.must(";")
	return c
}

// assignment reads an assignment of a command that has some already.
func (r *reader) assignment(ahead []api.Set) api.Set {
	n := slices.Index(r.m.Names, r.kind(api.TName).Text)
	if n < 0 || slices.ContainsFunc(ahead, func(x api.Set) bool { return x.Var == n }) {
		r.fail(api.ErrName)
	}
	r.at++
	r.must("=")
	return api.Set{Var: n, E: r.expression(api.YInt)}
}

// expression reads an expression of a type.
func (r *reader) expression(want int) api.Expr {
	e, behind, code, at := expr.Parse(r.l, r.at, r.m.Names)
	if code != api.OK {
		panic(fault{code, at})
	}
	r.at = behind
	y, code, at := expr.Type(e)
	if code != api.OK {
		panic(fault{code, at})
	}
	if y != want {
		panic(fault{api.ErrType, e.At})
	}
	return e
}
