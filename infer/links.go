package infer

import "athanor/api"

// links is what the solver's variables are bound to, noted once more. The solver writes out no type of more than MaxTypes nodes, but which variables stand in one that is bound around must be known however many it has.
type links struct {
	of   []link // of the variable n at n - 1
	look int    // how many looks there were
}

// link is that of one variable.
type link struct {
	to   *api.Type // what it is bound to; nil, if it is not
	seen int       // the last look that came by
}

func (l *links) add() {
	l.of = append(l.of, link{})
}

// variable tells the link of a variable; nil of what is none.
func (l *links) variable(t *api.Type) *link {
	if t.Kind != api.TyVar {
		return nil
	}
	return &l.of[t.N-1]
}

// end goes from a type over all links.
func (l *links) end(t *api.Type) *api.Type {
	last := t
	for v := l.variable(last); v != nil && v.to != nil; v = l.variable(last) {
		last = v.to
	}
	// A long way would be gone again for each place at which its variable stands, so it is made one link long.
	for t != last {
		v := l.variable(t)
		t, v.to = v.to, last
	}
	return last
}

// join notes what is bound where two types have been unified.
func (l *links) join(a, b *api.Type) {
	a, b = l.end(a), l.end(b)
	v, w := l.variable(a), l.variable(b)
	switch {
	case v != nil && v == w:
	case v != nil:
		v.to = b
	case w != nil:
		w.to = a
	default:
		for i := range a.Args {
			l.join(&a.Args[i], &b.Args[i])
		}
	}
}

// see looks at variables, and at all that stand in what they are bound to.
func (l *links) see(vars []int) {
	l.look++
	for len(vars) > 0 {
		last := len(vars) - 1
		v := &l.of[vars[last]-1]
		vars = vars[:last]
		if v.seen == l.look {
			continue
		}
		v.seen = l.look
		if v.to != nil {
			vars = numbers(vars, v.to)
		}
	}
}

// saw tells whether the last look came by that variable.
func (l *links) saw(n int) bool {
	return l.of[n-1].seen == l.look
}
