package typ

import "athanor/api"

// First tells whether a type is without functions, in what the types of l have as well.
func First(l []api.Decl, t api.Type) bool {
	if Size(t) > api.MaxTypes {
		return false
	}
	k := known{decls: l, at: places(l), met: make([]bool, len(l))}
	return k.first(&t) && k.fieldsFirst()
}

// places tells the first place of each name.
func places(l []api.Decl) map[string]int {
	at := map[string]int{}
	for i, d := range l {
		if _, stood := at[d.Name]; !stood {
			at[d.Name] = i
		}
	}
	return at
}

// known is declared types, and those of them that have been met.
type known struct {
	decls []api.Decl
	at    map[string]int
	met   []bool
	order []int // the places of those that have been met
}

// meet notes that a type of that name stands somewhere; false, if there is none.
func (k *known) meet(name string) bool {
	i, ok := k.at[name]
	if ok && !k.met[i] {
		k.met[i] = true
		k.order = append(k.order, i)
	}
	return ok
}

// first looks at a type, what its declared types have apart.
func (k *known) first(t *api.Type) bool {
	switch t.Kind {
	case api.TyInt, api.TyVar:
		return true
	case api.TyCon:
		if !k.meet(t.Name) {
			return false
		}
		for i := range t.Args {
			if !k.first(&t.Args[i]) {
				return false
			}
		}
		return true
	}
	return false
}

// fieldsFirst looks at the Fields of all types that have been met, and of those that are met there.
func (k *known) fieldsFirst() bool {
	for i := 0; i < len(k.order); i++ {
		for _, c := range k.decls[k.order[i]].Cons {
			for j := range c.Fields {
				if k.hasFun(&c.Fields[j]) {
					return false
				}
			}
		}
	}
	return true
}

// hasFun tells whether a function stands in a field.
func (k *known) hasFun(t *api.Type) bool {
	switch t.Kind {
	case api.TyFun:
		return true
	case api.TyCon:
		k.meet(t.Name)
	}
	for i := range t.Args {
		if k.hasFun(&t.Args[i]) {
			return true
		}
	}
	return false
}
