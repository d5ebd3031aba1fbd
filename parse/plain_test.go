package parse

import (
	"fmt"
	"slices"
	"strings"

	"athanor/api"
	"athanor/lex"
)

// plainParse is a second reading of the chapter: the grammar itself is asked for the first token that can't stand, and the tree is made from the outside to the inside, by cutting the tokens at what binds least.
func plainParse(g *grammar, s string) (api.Program, int, api.Errno) {
	tokens, at, err := lex.Lex(s)
	if err != api.OK {
		return api.Program{}, at, err
	}
	if i := g.misfit(tokens); i == len(tokens) {
		return api.Program{}, len(s), api.ErrSyntax
	} else if i >= 0 {
		return api.Program{}, tokens[i].At, api.ErrSyntax
	}
	p := plainProgram(tokens)
	if plainMany(p) {
		return api.Program{}, 0, api.ErrMany
	}
	if plainDepth(p) > api.MaxDepth {
		return api.Program{}, 0, api.ErrDeep
	}
	return p, 0, api.OK
}

func text(t api.Token) string {
	switch t.Kind {
	case api.TokKey, api.TokSign:
		return t.Text
	}
	return ""
}

// find tells where one of the words first stands outside of brackets, and of what the opening words among them begin and the closing ones end; -1: nowhere.
func find(l []api.Token, open, closing string, words ...string) int {
	depth := 0
	for i, t := range l {
		switch x := text(t); {
		case depth == 0 && x != "" && slices.Contains(words, x):
			return i
		case x == "(" || x == open && open != "":
			depth++
		case x == ")" || x == closing && closing != "":
			depth--
		}
	}
	return -1
}

// findLast tells where one of the words stands last outside of brackets.
func findLast(l []api.Token, words ...string) int {
	at := -1
	for from := 0; ; {
		i := find(l[from:], "", "", words...)
		if i < 0 {
			return at
		}
		at = from + i
		from = at + 1
	}
}

// cut cuts the tokens at each such word outside of brackets, and of a case and its end.
func cut(l []api.Token, word string) [][]api.Token {
	var out [][]api.Token
	for {
		i := find(l, "case", "end", word)
		if i < 0 {
			return append(out, l)
		}
		out = append(out, l[:i])
		l = l[i+1:]
	}
}

// pieces cuts the tokens into atoms: single tokens, and what stands in brackets, with them.
func pieces(l []api.Token) [][]api.Token {
	var out [][]api.Token
	depth := 0
	for i, t := range l {
		if depth == 0 {
			out = append(out, nil)
		}
		switch text(t) {
		case "(":
			depth++
		case ")":
			depth--
		}
		out[len(out)-1] = append(out[len(out)-1], l[i])
	}
	return out
}

// bare takes brackets off an atom that stands in them.
func bare(l []api.Token) []api.Token {
	for text(l[0]) == "(" && len(pieces(l)) == 1 {
		l = l[1 : len(l)-1]
	}
	return l
}

func plainProgram(l []api.Token) api.Program {
	var p api.Program
	for text(l[0]) == "type" {
		end := find(l, "", "", ";")
		p.Decls = append(p.Decls, plainDecl(l[:end]))
		l = l[end+1:]
	}
	p.Main = plainExpr(l)
	return p
}

func plainDecl(l []api.Token) api.Decl {
	equals := find(l, "", "", "=")
	d := api.Decl{Name: l[1].Text, At: l[0].At}
	for _, t := range l[2:equals] {
		d.Params = append(d.Params, t.Text)
	}
	for _, con := range cut(l[equals+1:], "|") {
		c := api.Con{Name: con[0].Text}
		for _, field := range pieces(con[1:]) {
			c.Fields = append(c.Fields, plainType(field))
		}
		d.Cons = append(d.Cons, c)
	}
	return d
}

func plainType(l []api.Token) api.Type {
	l = bare(l)
	if i := find(l, "", "", "->"); i >= 0 {
		return api.Type{Kind: api.TyFun, Args: []api.Type{plainType(l[:i]), plainType(l[i+1:])}}
	}
	switch {
	case l[0].Kind == api.TokVar:
		return api.Type{Kind: api.TyVar, Name: l[0].Text}
	case l[0].Text == "int":
		return api.Type{Kind: api.TyInt}
	}
	t := api.Type{Kind: api.TyCon, Name: l[0].Text}
	for _, arg := range pieces(l[1:]) {
		t.Args = append(t.Args, plainType(arg))
	}
	return t
}

func plainPat(l []api.Token) api.Pat {
	l = bare(l)
	p := api.Pat{Name: l[0].Text, N: l[0].N, At: l[0].At}
	switch l[0].Kind {
	case api.TokSign:
		p.Kind, p.Name = api.PatAny, ""
	case api.TokLow:
		p.Kind = api.PatVar
	case api.TokInt:
		p.Kind = api.PatInt
	case api.TokUp:
		p.Kind = api.PatCon
	}
	for _, arg := range pieces(l[1:]) {
		p.Args = append(p.Args, plainPat(arg))
	}
	return p
}

func plainExpr(l []api.Token) api.Expr {
	at := l[0].At
	switch text(l[0]) {
	case "fun":
		return api.Expr{Kind: api.ExFun, Name: l[1].Text, Args: []api.Expr{plainExpr(l[3:])}, At: at}
	case "let":
		from := find(l, "", "", "=")
		in := from + find(l[from:], "let", "in", "in")
		args := []api.Expr{plainExpr(l[from+1 : in]), plainExpr(l[in+1:])}
		if from == 2 {
			return api.Expr{Kind: api.ExLet, Name: l[1].Text, Args: args, At: at}
		}
		return api.Expr{Kind: api.ExRec, Name: l[2].Text, Param: l[3].Text, Args: args, At: at}
	case "if":
		then := 1 + find(l[1:], "if", "else", "then")
		other := then + find(l[then:], "if", "else", "else")
		args := []api.Expr{plainExpr(l[1:then]), plainExpr(l[then+1 : other]), plainExpr(l[other+1:])}
		return api.Expr{Kind: api.ExCase, Args: args, Pats: []api.Pat{plainCon("True", at), plainCon("False", at)}, At: at}
	case "case":
		of := 1 + find(l[1:], "case", "of", "of")
		e := api.Expr{Kind: api.ExCase, Args: []api.Expr{plainExpr(l[1:of])}, At: at}
		for _, branch := range cut(l[of+1:len(l)-1], "|") {
			arrow := find(branch, "", "", "->")
			e.Pats = append(e.Pats, plainPat(branch[:arrow]))
			e.Args = append(e.Args, plainExpr(branch[arrow+1:]))
		}
		return e
	}
	return plainOperation(l)
}

func plainCon(name string, at int) api.Pat {
	return api.Pat{Kind: api.PatCon, Name: name, At: at}
}

func plainOperation(l []api.Token) api.Expr {
	if i := find(l, "", "", ";"); i >= 0 {
		first := plainOperation(l[:i])
		return api.Expr{Kind: api.ExCase, Args: []api.Expr{first, plainExpr(l[i+1:])}, Pats: []api.Pat{plainCon("Unit", first.At)}, At: first.At}
	}
	for _, level := range []string{"< ==", "+ -", "* / %"} {
		if i := findLast(l, strings.Fields(level)...); i >= 0 {
			left := plainOperation(l[:i])
			return api.Expr{Kind: api.ExPrim, Name: l[i].Text, Args: []api.Expr{left, plainOperation(l[i+1:])}, At: left.At}
		}
	}
	atoms := pieces(l)
	switch {
	case text(l[0]) == "print":
		return api.Expr{Kind: api.ExPrint, Args: []api.Expr{plainAtom(atoms[1])}, At: l[0].At}
	case l[0].Kind == api.TokUp:
		e := plainAtom(atoms[0])
		for _, x := range atoms[1:] {
			e.Args = append(e.Args, plainAtom(x))
		}
		return e
	}
	e := plainAtom(atoms[0])
	for _, x := range atoms[1:] {
		e = api.Expr{Kind: api.ExApp, Args: []api.Expr{e, plainAtom(x)}, At: e.At}
	}
	return e
}

func plainAtom(l []api.Token) api.Expr {
	t := l[0]
	switch t.Kind {
	case api.TokLow:
		return api.Expr{Kind: api.ExVar, Name: t.Text, At: t.At}
	case api.TokInt:
		return api.Expr{Kind: api.ExInt, N: t.N, At: t.At}
	case api.TokUp:
		return api.Expr{Kind: api.ExCon, Name: t.Text, At: t.At}
	}
	return plainExpr(l[1 : len(l)-1])
}

// nodes tells all expressions and patterns, each as its kind, how many parts it has and how deep it stands.
type node struct {
	con         bool
	args, depth int
}

func nodes(e api.Expr, depth int) []node {
	out := []node{{e.Kind == api.ExCon, len(e.Args), depth}}
	for _, x := range e.Args {
		out = append(out, nodes(x, depth+1)...)
	}
	for _, p := range e.Pats {
		out = append(out, patNodes(p, depth+1)...)
	}
	return out
}

func patNodes(p api.Pat, depth int) []node {
	out := []node{{p.Kind == api.PatCon, len(p.Args), depth}}
	for _, x := range p.Args {
		out = append(out, patNodes(x, depth+1)...)
	}
	return out
}

func plainMany(p api.Program) bool {
	all := nodes(p.Main, 1)
	out := len(p.Decls) > 32 || len(all) > 2048
	for _, d := range p.Decls {
		out = out || len(d.Params) > 4 || len(d.Cons) > 32
		for _, c := range d.Cons {
			out = out || len(c.Fields) > 8
		}
	}
	for _, x := range all {
		out = out || x.con && x.args > 8
	}
	return out
}

func typeDepth(t api.Type) int {
	depth := 0
	for _, x := range t.Args {
		depth = max(depth, typeDepth(x))
	}
	return depth + 1
}

func plainDepth(p api.Program) int {
	depth := 0
	for _, d := range p.Decls {
		for _, c := range d.Cons {
			for _, t := range c.Fields {
				depth = max(depth, typeDepth(t))
			}
		}
	}
	for _, x := range nodes(p.Main, 1) {
		depth = max(depth, x.depth)
	}
	return depth
}

// write writes a program with brackets around everything: what has come of Parse, and nothing else, is read again out of that.
func write(p api.Program) string {
	var out strings.Builder
	for _, d := range p.Decls {
		fmt.Fprintf(&out, "type %s", d.Name)
		for _, x := range d.Params {
			fmt.Fprintf(&out, " '%s", x)
		}
		out.WriteString(" =")
		for i, c := range d.Cons {
			if i > 0 {
				out.WriteString("|")
			}
			out.WriteString(c.Name)
			for _, t := range c.Fields {
				out.WriteString("(" + writeType(t) + ")")
			}
		}
		out.WriteString(";")
	}
	return out.String() + writeExpr(p.Main)
}

func writeType(t api.Type) string {
	switch t.Kind {
	case api.TyInt:
		return "int"
	case api.TyVar:
		return "'" + t.Name
	case api.TyFun:
		return "(" + strings.Join(written(t.Args, writeType), ")->(") + ")"
	case api.TyCon:
		return t.Name + "(" + strings.Join(written(t.Args, writeType), ")(") + ")"
	}
	return "?"
}

func written[T any](l []T, f func(T) string) []string {
	var out []string
	for _, x := range l {
		out = append(out, f(x))
	}
	return out
}

// dropped is the text without empty brackets, which stand where there are no parts.
func dropped(s string) string { return strings.ReplaceAll(s, "()", "") }

func writeNumber(n int) string {
	return strings.Replace(fmt.Sprint(n), "-", "~", 1)
}

func writePat(p api.Pat) string {
	switch p.Kind {
	case api.PatAny:
		return "_"
	case api.PatVar:
		return p.Name
	case api.PatInt:
		return writeNumber(p.N)
	case api.PatCon:
		return p.Name + "(" + strings.Join(written(p.Args, writePat), ")(") + ")"
	}
	return "?"
}

func writeExpr(e api.Expr) string {
	args := written(e.Args, writeExpr)
	parts := "(" + strings.Join(args, ")(") + ")"
	for len(args) < 2 {
		args = append(args, "?")
	}
	switch e.Kind {
	case api.ExVar:
		return e.Name
	case api.ExInt:
		return writeNumber(e.N)
	case api.ExFun:
		return "fun " + e.Name + " -> " + args[0]
	case api.ExApp:
		return parts
	case api.ExLet:
		return "let " + e.Name + " = " + args[0] + " in " + args[1]
	case api.ExRec:
		return "let rec " + e.Name + " " + e.Param + " = " + args[0] + " in " + args[1]
	case api.ExCase:
		var branches []string
		for i, p := range e.Pats {
			body := "?"
			if i+1 < len(e.Args) {
				body = args[i+1]
			}
			branches = append(branches, writePat(p)+" -> ("+body+")")
		}
		return "case " + args[0] + " of " + strings.Join(branches, "|") + " end"
	case api.ExCon:
		return e.Name + parts
	case api.ExPrim:
		return "(" + args[0] + ")" + e.Name + "(" + args[1] + ")"
	case api.ExPrint:
		return "print " + parts
	}
	return "?"
}
