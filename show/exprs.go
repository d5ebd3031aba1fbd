package show

import "athanor/api"

type expr api.Expr

func (e expr) parts() int {
	return len(e.Args)
}

func (e expr) part(i int) part {
	return e.arg(i)
}

func (e expr) arg(i int) expr {
	return expr(e.Args[i])
}

func (e expr) text(p *page) {
	switch e.Kind {
	case api.ExInt:
		p.number(e.N)
	case api.ExFun:
		p.put("fun ", e.Name, " -> ")
		p.row("", e.arg(0).text)
	case api.ExApp:
		p.row(" ", e.arg(0).head, e.arg(1).atom)
	case api.ExLet:
		p.put("let ", e.Name, " = ")
		p.row(" in ", e.arg(0).text, e.arg(1).text)
	case api.ExRec:
		p.put("let rec ", e.Name, " ", e.Param, " = ")
		p.row(" in ", e.arg(0).text, e.arg(1).text)
	case api.ExCase:
		p.put("case ")
		p.row(" of ", e.arg(0).text, e.branches)
		p.put(" end")
	case api.ExPrim:
		p.row(" "+e.Name+" ", e.arg(0).atom, e.arg(1).atom)
	case api.ExPrint:
		p.put("print ")
		p.row("", e.arg(0).atom)
	default:
		p.named(e.Name, e)
	}
}

func (e expr) atom(p *page) {
	p.atom(e)
}

// head writes an expression to which another is applied. A constructor would take that as an argument of its own.
func (e expr) head(p *page) {
	switch e.Kind {
	case api.ExApp:
		e.text(p)
	case api.ExCon:
		p.brackets(e.text)
	default:
		p.atom(e)
	}
}

func (e expr) branches(p *page) {
	var all []func(*page)
	for i, x := range e.Pats {
		all = append(all, branch{pat(x), e.arg(i + 1)}.text)
	}
	p.row(" | ", all...)
}

type branch struct {
	of pat
	to expr
}

func (b branch) text(p *page) {
	p.row(" -> ", b.of.text, b.body)
}

// body puts brackets around what would take the next branch as its own.
func (b branch) body(p *page) {
	switch b.to.Kind {
	case api.ExFun, api.ExLet, api.ExRec:
		p.brackets(b.to.text)
	default:
		b.to.text(p)
	}
}

type pat api.Pat

func (x pat) parts() int {
	return len(x.Args)
}

func (x pat) part(i int) part {
	return pat(x.Args[i])
}

func (x pat) text(p *page) {
	switch x.Kind {
	case api.PatAny:
		p.put("_")
	case api.PatInt:
		p.number(x.N)
	default:
		p.named(x.Name, x)
	}
}
