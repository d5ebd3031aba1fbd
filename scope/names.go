package scope

import "athanor/api"

// names tells of each name how many times over it is bound. One that is not bound, or not any more, does not stand there.
type names map[string]int

func (n names) has(name string) bool {
	return n[name] > 0
}

func (n names) bind(l ...string) {
	for _, name := range l {
		n[name]++
	}
}

// leave takes back what bind did.
func (n names) leave(l ...string) {
	for _, name := range l {
		if n[name]--; n[name] == 0 {
			delete(n, name)
		}
	}
}

// binds tells the names that an expression binds in its part i. They may be told twice.
func binds(e api.Expr, i int) []string {
	switch {
	case e.Kind == api.ExFun && i == 0, e.Kind == api.ExLet && i == 1, e.Kind == api.ExRec && i == 1:
		return []string{e.Name}
	case e.Kind == api.ExRec && i == 0:
		return []string{e.Name, e.Param}
	case e.Kind == api.ExCase && i >= 1 && i <= len(e.Pats):
		return patNames(nil, e.Pats[i-1])
	}
	return nil
}

// patNames puts the names that a pattern binds behind those in l.
func patNames(l []string, p api.Pat) []string {
	if p.Kind == api.PatVar {
		l = append(l, p.Name)
	}
	for _, part := range p.Args {
		l = patNames(l, part)
	}
	return l
}
