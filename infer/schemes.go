package infer

import (
	"slices"

	"athanor/api"
)

// scheme is a type, some of whose variables are open.
type scheme struct {
	of   api.Type
	open []int // the numbers of those, rising
	held []int // the numbers of the others
}

// names is what is bound around.
type names []pair[string, scheme]

// closed is a type as a scheme without open variables.
func closed(t api.Type) scheme {
	return scheme{of: t, held: numbers(nil, &t)}
}

// opened is the scheme of the type of what stands at that place.
func (w *walk) opened(t api.Type, at int, around names) scheme {
	t, err := w.solver.Apply(t)
	if err != api.OK {
		w.fail(api.ErrMany, at)
		return scheme{}
	}
	var held []int
	for _, b := range around {
		held = append(held, b.value.held...)
	}
	w.links.see(held)
	out := scheme{of: t}
	for _, n := range distinct(numbers(nil, &t)) {
		if w.links.saw(n) {
			out.held = append(out.held, n)
		} else {
			out.open = append(out.open, n)
		}
	}
	return out
}

// distinct is a list's numbers, each once, rising.
func distinct(l []int) []int {
	slices.Sort(l)
	return slices.Compact(l)
}

// taken is a scheme's type, with fresh variables in the place of the open ones.
func (w *walk) taken(s scheme) api.Type {
	fresh := w.several(len(s.open))
	return exchanged(s.of, func(variable api.Type) api.Type {
		if i, open := slices.BinarySearch(s.open, variable.N); open {
			return fresh[i]
		}
		return variable
	})
}
