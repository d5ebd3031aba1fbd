package parse

import "athanor/api"

// intName is the name that stands for a type of its own, not for a declared one.
const intName = "int"

func (r *reader) decl() api.Decl {
	d := api.Decl{At: r.mark("type")}
	d.Name = r.word(api.TokLow).Text
	for r.next().Kind == api.TokVar {
		d.Params = append(d.Params, r.word(api.TokVar).Text)
	}
	r.mark("=")
	d.Cons = append(d.Cons, r.con())
	for r.is("|") {
		r.mark("|")
		d.Cons = append(d.Cons, r.con())
	}
	r.mark(";")
	return d
}

func (r *reader) con() api.Con {
	name := r.word(api.TokUp).Text
	return api.Con{Name: name, Fields: several(r, typeAtoms())}
}

func typeAtoms() []rule[api.Type] {
	return []rule[api.Type]{
		{api.TokLow, "", (*reader).typeName},
		{api.TokVar, "", (*reader).typeVar},
		{api.TokSign, "(", (*reader).typeInBrackets},
	}
}

func (r *reader) typ() api.Type {
	from := r.typeWithArgs()
	if !r.is("->") {
		return from
	}
	r.mark("->")
	return api.Type{Kind: api.TyFun, Args: []api.Type{from, r.typ()}}
}

// typeWithArgs reads a name's arguments behind it; behind int, a parameter and brackets there can be none.
func (r *reader) typeWithArgs() api.Type {
	named := r.next().Kind == api.TokLow
	t := one(r, typeAtoms())
	if named && t.Kind == api.TyCon {
		t.Args = several(r, typeAtoms())
	}
	return t
}

func (r *reader) typeName() api.Type {
	name := r.word(api.TokLow).Text
	if name == intName {
		return api.Type{Kind: api.TyInt}
	}
	return api.Type{Kind: api.TyCon, Name: name}
}

func (r *reader) typeVar() api.Type {
	return api.Type{Kind: api.TyVar, Name: r.word(api.TokVar).Text}
}

func (r *reader) typeInBrackets() api.Type {
	r.mark("(")
	t := r.typ()
	r.mark(")")
	return t
}
