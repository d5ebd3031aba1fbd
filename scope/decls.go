package scope

import (
	"slices"
	"strings"

	"athanor/api"
)

// given is the types that every program has.
func given() []api.Decl {
	item := func() api.Type { return api.Type{Kind: api.TyVar, Name: "a"} }
	rest := api.Type{Kind: api.TyCon, Name: "list", Args: []api.Type{item()}}
	return []api.Decl{
		{Name: "unit", Cons: []api.Con{{Name: "Unit"}}},
		{Name: "bool", Cons: []api.Con{{Name: "False"}, {Name: "True"}}},
		{Name: "list", Params: []string{"a"}, Cons: []api.Con{{Name: "Nil"}, {Name: "Cons", Fields: []api.Type{item(), rest}}}},
	}
}

// copied is a list of copies.
func copied[T any](l []T, one func(T) T) []T {
	var out []T
	for _, x := range l {
		out = append(out, one(x))
	}
	return out
}

func copyDecl(d api.Decl) api.Decl {
	return api.Decl{Name: strings.Clone(d.Name), Params: copied(d.Params, strings.Clone), Cons: copied(d.Cons, copyCon), At: d.At}
}

func copyCon(c api.Con) api.Con {
	return api.Con{Name: strings.Clone(c.Name), Fields: copied(c.Fields, copyType)}
}

func copyType(t api.Type) api.Type {
	return api.Type{Kind: t.Kind, Name: strings.Clone(t.Name), N: t.N, Args: copied(t.Args, copyType)}
}

// declared is what is known of types, by their names.
type declared struct {
	params map[string]int // how many Params each type has
	fields map[string]int // how many Fields each constructor has
}

// nothingDeclared knows int alone, whose name no other type may have.
func nothingDeclared() declared {
	return declared{params: map[string]int{"int": 0}, fields: map[string]int{}}
}

// add makes a type known; false, if one of its names has been taken.
func (k declared) add(d api.Decl) bool {
	if _, taken := k.params[d.Name]; taken || anyTwice(d.Params) {
		return false
	}
	k.params[d.Name] = len(d.Params)
	for _, c := range d.Cons {
		if _, taken := k.fields[c.Name]; taken {
			return false
		}
		k.fields[c.Name] = len(c.Fields)
	}
	return true
}

// anyTwice tells whether a name stands twice in a short list.
func anyTwice(l []string) bool {
	for i, name := range l {
		if slices.Contains(l[:i], name) {
			return true
		}
	}
	return false
}

// conFits tells whether there is a constructor of that name, with so many fields.
func (k declared) conFits(name string, args int) bool {
	fields, ok := k.fields[name]
	return ok && fields == args
}

// fieldsFit tells whether all that stands in a declared type's fields is known.
func (k declared) fieldsFit(d api.Decl) bool {
	for _, c := range d.Cons {
		if !k.typesFit(d.Params, c.Fields) {
			return false
		}
	}
	return true
}

func (k declared) typesFit(params []string, l []api.Type) bool {
	for _, t := range l {
		if !k.typeFits(params, t) || !k.typesFit(params, t.Args) {
			return false
		}
	}
	return true
}

// typeFits looks at a type, its arguments apart.
func (k declared) typeFits(params []string, t api.Type) bool {
	switch t.Kind {
	case api.TyVar:
		return slices.Contains(params, t.Name)
	case api.TyCon:
		n, ok := k.params[t.Name]
		return ok && n == len(t.Args)
	}
	return true
}
