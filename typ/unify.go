package typ

import "athanor/api"

// pairs is a unification, pair by pair.
type pairs struct {
	*Solver
	looked int // how many pairs have been looked at
}

func (p *pairs) unify(a, b *api.Type) api.Errno {
	if p.looked++; p.looked > api.MaxWork {
		return api.ErrMany
	}
	a, b = p.end(a), p.end(b)
	v, w := p.variable(a), p.variable(b)
	switch {
	case v != nil && v == w:
		return api.OK
	case v != nil:
		return p.bind(v, b)
	case w != nil:
		return p.bind(w, a)
	case a.Kind != b.Kind || a.Name != b.Name || len(a.Args) != len(b.Args):
		return api.ErrUnify
	}
	for i := range a.Args {
		if err := p.unify(&a.Args[i], &b.Args[i]); err != api.OK {
			return err
		}
	}
	return api.OK
}

// bind links a variable that is not bound to a type other than itself.
func (s *Solver) bind(v *variable, t *api.Type) api.Errno {
	if err := s.forbids(v.n, t); err != api.OK {
		return err
	}
	v.to = t
	return api.OK
}

// forbids tells why the variable of that number can't be bound to t: what is met first in t, written out.
func (s *Solver) forbids(n int, t *api.Type) api.Errno {
	w := walk{Solver: s, n: n}
	return w.look(t)
}

// walk goes through a type, written out, from the left, a node ahead of its Args.
type walk struct {
	*Solver
	n     int // the number of the variable that must not be met
	nodes int // how many nodes have been met
}

func (w *walk) look(t *api.Type) api.Errno {
	if w.nodes++; w.nodes > api.MaxTypes {
		return api.ErrMany
	}
	t = w.end(t)
	if v := w.variable(t); v != nil && v.n == w.n {
		return api.ErrOccurs
	}
	for i := range t.Args {
		if err := w.look(&t.Args[i]); err != api.OK {
			return err
		}
	}
	return api.OK
}
