package parse

import (
	"slices"

	"athanor/api"
)

// Size tells how many expressions and patterns a program has; MaxExprs + 1, if more.
func Size(p api.Program) int {
	var n count
	n.expr(p.Main)
	return int(n)
}

// count goes on only up to MaxExprs + 1, so that a program of any size is soon counted.
type count int

func (n *count) full() bool {
	return *n > api.MaxExprs
}

func (n *count) expr(e api.Expr) {
	*n++
	for i := 0; i < len(e.Args) && !n.full(); i++ {
		n.expr(e.Args[i])
	}
	for i := 0; i < len(e.Pats) && !n.full(); i++ {
		n.pat(e.Pats[i])
	}
}

func (n *count) pat(p api.Pat) {
	*n++
	for i := 0; i < len(p.Args) && !n.full(); i++ {
		n.pat(p.Args[i])
	}
}

// tooMany tells whether a program passes a limit other than that of depth.
func tooMany(p api.Program) bool {
	// Size is asked ahead of the walks through the program, so that those are short.
	return len(p.Decls) > api.MaxDecls || Size(p) > api.MaxExprs || slices.ContainsFunc(p.Decls, manyInDecl) || manyInExpr(p.Main)
}

func manyInDecl(d api.Decl) bool {
	return len(d.Params) > api.MaxParams || len(d.Cons) > api.MaxCons || slices.ContainsFunc(d.Cons, manyInCon)
}

func manyInCon(c api.Con) bool {
	return len(c.Fields) > api.MaxFields
}

func manyInExpr(e api.Expr) bool {
	if e.Kind == api.ExCon && len(e.Args) > api.MaxFields {
		return true
	}
	return slices.ContainsFunc(e.Args, manyInExpr) || slices.ContainsFunc(e.Pats, manyInPat)
}

func manyInPat(p api.Pat) bool {
	if p.Kind == api.PatCon && len(p.Args) > api.MaxFields {
		return true
	}
	return slices.ContainsFunc(p.Args, manyInPat)
}

// tooDeep tells whether expressions and patterns, or types, stand in one another more than MaxDepth deep.
func tooDeep(p api.Program) bool {
	for _, d := range p.Decls {
		for _, c := range d.Cons {
			for _, t := range c.Fields {
				if deepType(t, api.MaxDepth) {
					return true
				}
			}
		}
	}
	return deepExpr(p.Main, api.MaxDepth)
}

// deepExpr tells whether an expression is deeper than so much.
func deepExpr(e api.Expr, most int) bool {
	if most == 0 {
		return true
	}
	for _, x := range e.Args {
		if deepExpr(x, most-1) {
			return true
		}
	}
	return deepPats(e.Pats, most-1)
}

// deepPats tells whether one of the patterns is deeper than so much.
func deepPats(l []api.Pat, most int) bool {
	for _, p := range l {
		if most == 0 || deepPats(p.Args, most-1) {
			return true
		}
	}
	return false
}

func deepType(t api.Type, most int) bool {
	if most == 0 {
		return true
	}
	for _, x := range t.Args {
		if deepType(x, most-1) {
			return true
		}
	}
	return false
}
