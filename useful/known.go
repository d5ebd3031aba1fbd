package useful

import (
	"athanor/api"
	"athanor/scope"
)

// kin is the constructors of one type.
type kin struct {
	cons  []api.Con
	names []string // theirs, each once: a type that nobody checked may have many alike
}

// found is where a constructor stands, and how many fields it has.
type found struct {
	decl, fields int
}

// known is what is known of patterns that have been looked at.
type known struct {
	types []api.Decl
	cons  map[string]found // of those that stand in the patterns
	kins  map[int]kin      // of their types
	pats  int
}

func newKnown(types []api.Decl) *known {
	return &known{types: types, cons: map[string]found{}, kins: map[int]kin{}}
}

// learn looks at patterns that are so deep in others; false, if one is not as it must be, or there are too many.
func (k *known) learn(pats []api.Pat, deep int) bool {
	for _, p := range pats {
		k.pats++
		if k.pats > api.MaxExprs || deep > api.MaxDepth || !k.fits(p) || !k.learn(p.Args, deep+1) {
			return false
		}
	}
	return true
}

// fits looks at a pattern alone.
func (k *known) fits(p api.Pat) bool {
	if p.Kind != api.PatCon {
		return p.Kind == api.PatAny || p.Kind == api.PatVar || p.Kind == api.PatInt
	}
	c, ok := k.con(p.Name)
	return ok && c.fields == len(p.Args)
}

// con finds a constructor, once for all patterns that have it.
func (k *known) con(name string) (found, bool) {
	if c, ok := k.cons[name]; ok {
		return c, true
	}
	decl, tag, ok := scope.Find(k.types, name)
	if !ok {
		return found{}, false
	}
	c := found{decl, len(k.types[decl].Cons[tag].Fields)}
	k.cons[name] = c
	if _, ok := k.kins[decl]; !ok {
		k.kins[decl] = newKin(k.types[decl].Cons)
	}
	return c, true
}

func newKin(cons []api.Con) kin {
	out := kin{cons: cons}
	had := map[string]int{}
	for _, c := range cons {
		if had[c.Name]++; had[c.Name] == 1 {
			out.names = append(out.names, c.Name)
		}
	}
	return out
}

// kinOf tells the constructors of the type of one that stands in the patterns.
func (k *known) kinOf(name string) kin {
	return k.kins[k.cons[name].decl]
}
