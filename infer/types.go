package infer

import "athanor/api"

func integer() api.Type {
	return api.Type{Kind: api.TyInt}
}

func function(from, to api.Type) api.Type {
	return api.Type{Kind: api.TyFun, Args: []api.Type{from, to}}
}

func declared(name string, args ...api.Type) api.Type {
	return api.Type{Kind: api.TyCon, Name: name, Args: args}
}

// exchanged is a type with others in the place of its variables.
func exchanged(t api.Type, stand func(variable api.Type) api.Type) api.Type {
	if t.Kind == api.TyVar {
		return stand(t)
	}
	out := api.Type{Kind: t.Kind, Name: t.Name}
	for _, x := range t.Args {
		out.Args = append(out.Args, exchanged(x, stand))
	}
	return out
}

// numbers puts the numbers of a type's variables, as it stands, behind those in l.
func numbers(l []int, t *api.Type) []int {
	if t.Kind == api.TyVar {
		return append(l, t.N)
	}
	for i := range t.Args {
		l = numbers(l, &t.Args[i])
	}
	return l
}
