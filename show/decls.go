package show

import "athanor/api"

type program api.Program

func (x program) text(p *page) {
	var all []func(*page)
	for _, d := range x.Decls {
		all = append(all, decl(d).text)
	}
	p.row("", append(all, expr(x.Main).text)...)
	p.put("\n")
}

type decl api.Decl

func (d decl) text(p *page) {
	p.put("type ", d.Name)
	for _, name := range d.Params {
		p.put(" '", name)
	}
	p.put(" = ")
	var all []func(*page)
	for _, c := range d.Cons {
		// A constructor and its fields look as a declared type and its arguments do.
		all = append(all, typ{Kind: api.TyCon, Name: c.Name, Args: c.Fields}.text)
	}
	p.row(" | ", all...)
	p.put(";\n")
}

type typ api.Type

func (t typ) parts() int {
	return len(t.Args)
}

func (t typ) part(i int) part {
	return typ(t.Args[i])
}

func (t typ) text(p *page) {
	switch t.Kind {
	case api.TyInt:
		p.put("int")
	case api.TyVar:
		p.put("'", t.Name)
	case api.TyFun:
		p.row(" -> ", t.from, t.part(1).text)
	default:
		p.named(t.Name, t)
	}
}

// from writes the type that a function takes. An arrow within it must not be read as the one behind it.
func (t typ) from(p *page) {
	from := typ(t.Args[0])
	if from.Kind == api.TyFun {
		p.brackets(from.text)
		return
	}
	from.text(p)
}
