package show

import (
	"fmt"
	"strings"

	"athanor/api"
	"athanor/parse"
)

// A second writing of the chapter: texts put together from the inside to the outside, one function for each of its words, for programs that parse.Check lets through.

func plainProgram(p api.Program) string {
	s := ""
	for _, d := range p.Decls {
		s += plainDecl(d)
	}
	return s + plainText(p.Main) + "\n"
}

func plainDecl(d api.Decl) string {
	s := "type " + d.Name
	for _, x := range d.Params {
		s += " '" + x
	}
	var cons []string
	for _, c := range d.Cons {
		words := []string{c.Name}
		for _, t := range c.Fields {
			words = append(words, plainTypeAtom(t))
		}
		cons = append(cons, strings.Join(words, " "))
	}
	return s + " = " + strings.Join(cons, " | ") + ";\n"
}

func plainType(t api.Type) string {
	switch t.Kind {
	case api.TyInt:
		return "int"
	case api.TyVar:
		return "'" + t.Name
	case api.TyFun:
		if t.Args[0].Kind == api.TyFun {
			return "(" + plainType(t.Args[0]) + ") -> " + plainType(t.Args[1])
		}
		return plainType(t.Args[0]) + " -> " + plainType(t.Args[1])
	}
	words := []string{t.Name}
	for _, x := range t.Args {
		words = append(words, plainTypeAtom(x))
	}
	return strings.Join(words, " ")
}

func plainTypeAtom(t api.Type) string {
	if t.Kind == api.TyFun || t.Kind == api.TyCon && len(t.Args) > 0 {
		return "(" + plainType(t) + ")"
	}
	return plainType(t)
}

func plainNumber(n int) string {
	return strings.Replace(fmt.Sprint(n), "-", "~", 1)
}

func plainPat(p api.Pat) string {
	switch p.Kind {
	case api.PatAny:
		return "_"
	case api.PatVar:
		return p.Name
	case api.PatInt:
		return plainNumber(p.N)
	}
	s := p.Name
	for _, x := range p.Args {
		if x.Kind == api.PatCon && len(x.Args) > 0 {
			s += " (" + plainPat(x) + ")"
		} else {
			s += " " + plainPat(x)
		}
	}
	return s
}

func plainText(e api.Expr) string {
	switch e.Kind {
	case api.ExVar:
		return e.Name
	case api.ExInt:
		return plainNumber(e.N)
	case api.ExFun:
		return fmt.Sprintf("fun %s -> %s", e.Name, plainText(e.Args[0]))
	case api.ExApp:
		return fmt.Sprintf("%s %s", plainHead(e.Args[0]), plainAtom(e.Args[1]))
	case api.ExLet:
		return fmt.Sprintf("let %s = %s in %s", e.Name, plainText(e.Args[0]), plainText(e.Args[1]))
	case api.ExRec:
		return fmt.Sprintf("let rec %s %s = %s in %s", e.Name, e.Param, plainText(e.Args[0]), plainText(e.Args[1]))
	case api.ExCase:
		var branches []string
		for i, p := range e.Pats {
			branches = append(branches, plainPat(p)+" -> "+plainBranch(e.Args[i+1]))
		}
		return fmt.Sprintf("case %s of %s end", plainText(e.Args[0]), strings.Join(branches, " | "))
	case api.ExCon:
		s := e.Name
		for _, x := range e.Args {
			s += " " + plainAtom(x)
		}
		return s
	case api.ExPrim:
		return fmt.Sprintf("%s %s %s", plainAtom(e.Args[0]), e.Name, plainAtom(e.Args[1]))
	}
	return "print " + plainAtom(e.Args[0])
}

func plainAtom(e api.Expr) string {
	if e.Kind == api.ExVar || e.Kind == api.ExInt || e.Kind == api.ExCon && len(e.Args) == 0 {
		return plainText(e)
	}
	return "(" + plainText(e) + ")"
}

func plainHead(e api.Expr) string {
	switch e.Kind {
	case api.ExApp:
		return plainText(e)
	case api.ExCon:
		return "(" + plainText(e) + ")"
	}
	return plainAtom(e)
}

func plainBranch(e api.Expr) string {
	switch e.Kind {
	case api.ExVar, api.ExInt, api.ExCon, api.ExApp, api.ExPrint, api.ExPrim, api.ExCase:
		return plainText(e)
	}
	return "(" + plainText(e) + ")"
}

// plainly is what the chapter asks of a text of something that is good or not.
func plainly(good bool, text func() string) (string, api.Errno) {
	if !good {
		return "", api.ErrArg
	}
	s := text()
	if len(s) > api.MaxSource {
		return "", api.ErrLong
	}
	return s, api.OK
}

func wantProgram(p api.Program) (string, api.Errno) {
	return plainly(parse.Check(p), func() string { return plainProgram(p) })
}

func wantExpr(e api.Expr) (string, api.Errno) {
	return plainly(parse.Check(api.Program{Main: e}), func() string { return plainText(e) })
}

func wantType(t api.Type) (string, api.Errno) {
	return plainly(goodType(t, api.MaxDepth), func() string { return plainType(t) })
}

// goodType tells which types may stand in a Con, by the words of the chapters alone.
func goodType(t api.Type, most int) bool {
	if most == 0 || t.N != 0 {
		return false
	}
	for _, x := range t.Args {
		if !goodType(x, most-1) {
			return false
		}
	}
	switch t.Kind {
	case api.TyInt:
		return t.Name == "" && len(t.Args) == 0
	case api.TyVar:
		return word(t.Name) && len(t.Args) == 0
	case api.TyFun:
		return t.Name == "" && len(t.Args) == 2
	case api.TyCon:
		return word(t.Name) && !strings.Contains(" type fun let rec in case of end if then else print int ", " "+t.Name+" ")
	}
	return false
}

// word tells whether it is one with a small letter first.
func word(s string) bool {
	const small, rest = "abcdefghijklmnopqrstuvwxyz", "ABCDEFGHIJKLMNOPQRSTUVWXYZ0123456789_"
	return s != "" && len(s) <= api.MaxIdent && strings.Contains(small, s[:1]) && strings.Trim(s, small+rest) == ""
}
