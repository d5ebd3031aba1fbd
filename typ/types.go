package typ

import (
	"strconv"
	"strings"

	"athanor/api"
)

// Size tells how many nodes a type has; MaxTypes + 1, if there are more.
func Size(t api.Type) int {
	return counted(&t, 0)
}

// counted tells how many nodes there are with those of t, n having been ahead. Behind MaxTypes + 1 none is looked at: a type may be far greater.
func counted(t *api.Type, n int) int {
	n++
	for i := 0; i < len(t.Args) && n <= api.MaxTypes; i++ {
		n = counted(&t.Args[i], n)
	}
	return n
}

// Same tells whether two types are alike in every field.
func Same(a, b api.Type) bool {
	return same(&a, &b)
}

func same(a, b *api.Type) bool {
	if a.Kind != b.Kind || a.Name != b.Name || a.N != b.N || len(a.Args) != len(b.Args) {
		return false
	}
	for i := range a.Args {
		if !same(&a.Args[i], &b.Args[i]) {
			return false
		}
	}
	return true
}

// Canon tells a type with its variables named in the order of their first places.
func Canon(t api.Type) (api.Type, api.Errno) {
	if Size(t) > api.MaxTypes {
		return api.Type{}, api.ErrMany
	}
	return built(&t, namer{}.stand), api.OK
}

// sign is what tells variables apart: the Name of one that has a Name, else N.
type sign struct {
	name string
	n    int
}

func signOf(t *api.Type) sign {
	if t.Name != "" {
		return sign{name: t.Name}
	}
	return sign{n: t.N}
}

// namer tells of each variable that has been met how many others were met ahead of it.
type namer map[sign]int

// stand tells what stands in a node's place: a named variable in that of a variable.
func (k namer) stand(t *api.Type) *api.Type {
	if t.Kind != api.TyVar {
		return t
	}
	key := signOf(t)
	i, met := k[key]
	if !met {
		i = len(k)
		k[key] = i
	}
	return &api.Type{Kind: api.TyVar, Name: nameOf(i)}
}

// nameOf tells the name of the variable i: a .. z, then a1 .. z1, a2 and so on.
func nameOf(i int) string {
	letter := string(rune('a' + i%26))
	if i < 26 {
		return letter
	}
	return letter + strconv.Itoa(i/26)
}

func itself(t *api.Type) *api.Type {
	return t
}

// built is a type in new memory: of each node what stand tells of it, then the same of the Args of that.
func built(t *api.Type, stand func(*api.Type) *api.Type) api.Type {
	t = stand(t)
	out := api.Type{Kind: t.Kind, Name: strings.Clone(t.Name), N: t.N}
	if n := len(t.Args); n > 0 {
		out.Args = make([]api.Type, n)
	}
	for i := range t.Args {
		out.Args[i] = built(&t.Args[i], stand)
	}
	return out
}
