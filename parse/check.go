package parse

import (
	"slices"

	"athanor/api"
	"athanor/ints"
	"athanor/lex"
)

// shape is what things of a kind have; what it does not name they do not have.
type shape struct {
	name, param int  // of which kind of token the names are; 0: there is none
	number      bool // has it a number?
	args        int  // how many parts it has
}

// How many parts there are, where that is no one number.
const (
	anyArgs  = -1
	caseArgs = -2 // one for each pattern, and one ahead of them
)

// The shapes stand at their kinds; the place 0, which is no kind's, is never asked for.
var (
	typeShapes = [...]shape{
		api.TyInt: {},
		api.TyVar: {name: api.TokVar},
		api.TyFun: {args: 2},
		api.TyCon: {name: api.TokLow, args: anyArgs},
	}
	patShapes = [...]shape{
		api.PatAny: {},
		api.PatVar: {name: api.TokLow},
		api.PatInt: {number: true},
		api.PatCon: {name: api.TokUp, args: anyArgs},
	}
	exprShapes = [...]shape{
		api.ExVar:   {name: api.TokLow},
		api.ExInt:   {number: true},
		api.ExFun:   {name: api.TokLow, args: 1},
		api.ExApp:   {args: 2},
		api.ExLet:   {name: api.TokLow, args: 2},
		api.ExRec:   {name: api.TokLow, param: api.TokLow, args: 2},
		api.ExCase:  {args: caseArgs},
		api.ExCon:   {name: api.TokUp, args: anyArgs},
		api.ExPrim:  {name: api.TokSign, args: 2},
		api.ExPrint: {args: 1},
	}
)

// Check tells whether a program may have come of Parse, but for places.
func Check(p api.Program) bool {
	return !tooMany(p) && !tooDeep(p) && all(p.Decls, goodDecl) && goodExpr(p.Main)
}

// Same tells whether two programs are alike but for places.
func Same(a, b api.Program) bool {
	return slices.EqualFunc(a.Decls, b.Decls, sameDecl) && sameExpr(a.Main, b.Main)
}

func all[T any](l []T, good func(T) bool) bool {
	for _, x := range l {
		if !good(x) {
			return false
		}
	}
	return true
}

func goodDecl(d api.Decl) bool {
	return goodName(api.TokLow, d.Name) && all(d.Params, goodParam) && len(d.Cons) > 0 && all(d.Cons, goodCon)
}

func goodParam(name string) bool {
	return goodName(api.TokVar, name)
}

func goodCon(c api.Con) bool {
	return goodName(api.TokUp, c.Name) && all(c.Fields, goodType)
}

func goodType(t api.Type) bool {
	if t.Kind < 1 || t.Kind >= len(typeShapes) {
		return false
	}
	// As a declared type's name, int would be read as the type that it is.
	if t.Kind == api.TyCon && t.Name == intName {
		return false
	}
	return typeShapes[t.Kind].fits(t.Name, t.N, len(t.Args)) && all(t.Args, goodType)
}

func goodPat(p api.Pat) bool {
	if p.Kind < 1 || p.Kind >= len(patShapes) {
		return false
	}
	return patShapes[p.Kind].fits(p.Name, p.N, len(p.Args)) && all(p.Args, goodPat)
}

func goodExpr(e api.Expr) bool {
	if e.Kind < 1 || e.Kind >= len(exprShapes) {
		return false
	}
	form := exprShapes[e.Kind]
	switch {
	case form.args == caseArgs && len(e.Pats) > 0:
		form.args = len(e.Pats) + 1
	case len(e.Pats) > 0:
		return false
	}
	return form.fits(e.Name, e.N, len(e.Args)) && goodName(form.param, e.Param) && all(e.Args, goodExpr) && all(e.Pats, goodPat)
}

// fits tells whether a name, a number and so many parts are what things of that shape have.
func (x shape) fits(name string, n, args int) bool {
	if !goodName(x.name, name) || args != x.args && x.args != anyArgs {
		return false
	}
	return n == 0 || x.number && ints.In(n)
}

// goodName tells whether a name is what tokens of that kind have as their text; of no kind, whether there is none.
func goodName(kind int, name string) bool {
	switch kind {
	case 0:
		return name == ""
	case api.TokSign:
		// Of the signs, those of operations alone are names.
		return ints.Op(name) != 0
	}
	_, err := lex.Text([]api.Token{{Kind: kind, Text: name}})
	return err == api.OK
}

func sameDecl(a, b api.Decl) bool {
	return a.Name == b.Name && slices.Equal(a.Params, b.Params) && slices.EqualFunc(a.Cons, b.Cons, sameCon)
}

func sameCon(a, b api.Con) bool {
	return a.Name == b.Name && slices.EqualFunc(a.Fields, b.Fields, sameType)
}

func sameType(a, b api.Type) bool {
	return a.Kind == b.Kind && a.Name == b.Name && a.N == b.N && slices.EqualFunc(a.Args, b.Args, sameType)
}

func samePat(a, b api.Pat) bool {
	return a.Kind == b.Kind && a.Name == b.Name && a.N == b.N && slices.EqualFunc(a.Args, b.Args, samePat)
}

func sameExpr(a, b api.Expr) bool {
	if a.Kind != b.Kind || a.Name != b.Name || a.Param != b.Param || a.N != b.N {
		return false
	}
	return slices.EqualFunc(a.Args, b.Args, sameExpr) && slices.EqualFunc(a.Pats, b.Pats, samePat)
}
