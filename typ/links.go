package typ

import "athanor/api"

// link leads from a variable to what it is bound to.
type link struct {
	to *api.Type
}

func (l link) bound() bool {
	return l.to != nil
}

// variable is one that Fresh made.
type variable struct {
	link
	n int
}

// noVariable is the number of no variable.
const noVariable = 0

// variable tells the variable that a node is; nil, if it is none.
func (s *Solver) variable(t *api.Type) *variable {
	if t.Kind != api.TyVar {
		return nil
	}
	return &s.vars[t.N-1]
}

// end goes from a node over all links: it tells a variable that is not bound, or what is no variable.
func (s *Solver) end(t *api.Type) *api.Type {
	last := t
	for v := s.variable(last); v != nil && v.bound(); v = s.variable(last) {
		last = v.to
	}
	// A way over many links would be gone again for each place at which its variable stands, so it is made one link long.
	for t != last {
		v := s.variable(t)
		t, v.to = v.to, last
	}
	return last
}
