// Package trees copies expressions.
package trees

import "scrutiny/api"

// Copied is an expression in memory of its own.
func Copied(e api.Expr) api.Expr {
	return api.Expr{Op: e.Op, N: e.N, At: e.At, L: All(e.L)}
}

// All are expressions in memory of their own.
func All(l []api.Expr) []api.Expr {
	var out []api.Expr
	for _, e := range l {
		out = append(out, Copied(e))
	}
	return out
}

// Bare is an expression in memory of its own, without places.
func Bare(e api.Expr) api.Expr {
	out := api.Expr{Op: e.Op, N: e.N}
	for _, x := range e.L {
		out.L = append(out.L, Bare(x))
	}
	return out
}
