package typ

import (
	"slices"
	"strconv"

	"athanor/api"
)

// plain is a second solver: it has a map for what is bound, and lists for what is still to be looked at.
type plain struct {
	made int
	to   map[int]api.Type
}

// inOrder is the nodes of a type, each as stand has it, a node ahead of its Args; no more than one too much.
func inOrder(t api.Type, stand func(api.Type) api.Type) []api.Type {
	out := make([]api.Type, 0, 8)
	for rest := []api.Type{t}; len(rest) > 0 && len(out) <= api.MaxTypes; {
		x := stand(rest[len(rest)-1])
		rest = rest[:len(rest)-1]
		out = append(out, x)
		for i := min(len(x.Args), 2000) - 1; i >= 0; i-- {
			rest = append(rest, x.Args[i])
		}
	}
	return out
}

func asItIs(t api.Type) api.Type { return t }

func plainSize(t api.Type) int { return len(inOrder(t, asItIs)) }

// planted is the type whose nodes, a node ahead of its Args, are those of the list.
func planted(l []api.Type) api.Type {
	type gap struct {
		at   *api.Type
		left int
	}
	var root api.Type
	gaps := []gap{{&root, 1}}
	for i, x := range l {
		for gaps[len(gaps)-1].left == 0 {
			gaps = gaps[:len(gaps)-1]
		}
		last := &gaps[len(gaps)-1]
		last.left--
		node := api.Type{Kind: x.Kind, Name: x.Name, N: x.N, Args: make([]api.Type, 0, len(x.Args))}
		if i == 0 {
			root = node
			gaps = append(gaps, gap{&root, len(x.Args)})
			continue
		}
		last.at.Args = append(last.at.Args, node)
		gaps = append(gaps, gap{&last.at.Args[len(last.at.Args)-1], len(x.Args)})
	}
	return root
}

func (p *plain) isType(t api.Type) bool {
	l := inOrder(t, asItIs)
	return len(l) <= api.MaxTypes && !slices.ContainsFunc(l, func(x api.Type) bool {
		args := len(x.Args)
		x.Args = nil
		switch x.Kind {
		case 1:
			return !alike(x, api.Type{Kind: 1}) || args != 0
		case 2:
			return x.N <= 0 || x.N > p.made || !alike(x, api.Type{Kind: 2, N: x.N}) || args != 0
		case 3:
			return !alike(x, api.Type{Kind: 3}) || args != 2
		case 4:
			return len(x.Name) == 0 || !alike(x, api.Type{Kind: 4, Name: x.Name})
		}
		return true
	})
}

// head exchanges a bound variable for what it is bound to.
func (p *plain) head(t api.Type) api.Type {
	for t.Kind == api.TyVar {
		to, bound := p.to[t.N]
		if !bound {
			break
		}
		t = to
	}
	return t
}

func (p *plain) apply(t api.Type) (api.Type, api.Errno) {
	if !p.isType(t) {
		return api.Type{}, api.ErrArg
	}
	l := inOrder(t, p.head)
	if len(l) > api.MaxTypes {
		return api.Type{}, api.ErrMany
	}
	return planted(l), api.OK
}

func (p *plain) unify(a, b api.Type) api.Errno {
	if !p.isType(a) || !p.isType(b) {
		return api.ErrArg
	}
	looked := 0
	for rest := [][2]api.Type{{a, b}}; len(rest) > 0; {
		x, y := p.head(rest[len(rest)-1][0]), p.head(rest[len(rest)-1][1])
		rest = rest[:len(rest)-1]
		if looked == api.MaxWork {
			return api.ErrMany
		}
		looked++
		if x.Kind != api.TyVar && y.Kind == api.TyVar {
			x, y = y, x
		}
		if x.Kind == api.TyVar {
			if err := p.bind(x.N, y); err != api.OK {
				return err
			}
			continue
		}
		if x.Kind != y.Kind || x.Name != y.Name || len(x.Args) != len(y.Args) {
			return api.ErrUnify
		}
		for i := len(x.Args) - 1; i >= 0; i-- {
			rest = append(rest, [2]api.Type{x.Args[i], y.Args[i]})
		}
	}
	return api.OK
}

func (p *plain) bind(n int, t api.Type) api.Errno {
	if t.Kind == api.TyVar && t.N == n {
		return api.OK
	}
	for i, x := range inOrder(t, p.head) {
		if i == api.MaxTypes {
			return api.ErrMany
		}
		if x.Kind == api.TyVar && x.N == n {
			return api.ErrOccurs
		}
	}
	p.to[n] = t
	return api.OK
}

// plainNames is the names of variables, in order.
func plainNames(n int) []string {
	var l []string
	for round := 0; len(l) < n; round++ {
		for _, c := range "abcdefghijklmnopqrstuvwxyz" {
			s := string(c)
			if round > 0 {
				s += strconv.Itoa(round)
			}
			l = append(l, s)
		}
	}
	return l[:n]
}

func plainCanon(t api.Type) (api.Type, api.Errno) {
	if plainSize(t) > api.MaxTypes {
		return api.Type{}, api.ErrMany
	}
	// A variable has no Args in what is told, so those are not gone through.
	l := inOrder(t, func(x api.Type) api.Type {
		if x.Kind == api.TyVar {
			x.Args = nil
		}
		return x
	})
	var stood []api.Type
	names := plainNames(len(l))
	for i, x := range l {
		if x.Kind != api.TyVar {
			continue
		}
		if x.Name != "" {
			x.N = 0
		}
		at := slices.IndexFunc(stood, func(y api.Type) bool { return x.N == y.N && x.Name == y.Name })
		if at < 0 {
			at = len(stood)
			stood = append(stood, x)
		}
		l[i] = named(names[at])
	}
	return planted(l), api.OK
}

// each is all nodes of a type.
func each(t api.Type) []api.Type {
	l := []api.Type{t}
	for i := 0; i < len(l); i++ {
		l = append(l, l[i].Args...)
	}
	return l
}

// plainFirst asks of every declared type, again and again, until no more of them is one with a function.
func plainFirst(l []api.Decl, t api.Type) bool {
	if plainSize(t) > api.MaxTypes {
		return false
	}
	find := func(name string) int {
		return slices.IndexFunc(l, func(d api.Decl) bool { return d.Name == name })
	}
	bad := make([]bool, len(l))
	isBad := func(x api.Type) bool {
		at := find(x.Name)
		return x.Kind == api.TyFun || x.Kind == api.TyCon && at >= 0 && bad[at]
	}
	for range l {
		for i, d := range l {
			for _, c := range d.Cons {
				for _, f := range c.Fields {
					bad[i] = bad[i] || slices.ContainsFunc(each(f), isBad)
				}
			}
		}
	}
	for rest := []api.Type{t}; len(rest) > 0; rest = rest[1:] {
		switch x := rest[0]; x.Kind {
		case api.TyInt, api.TyVar:
		case api.TyCon:
			if at := find(x.Name); at < 0 || bad[at] {
				return false
			}
			rest = append(rest, x.Args...)
		default:
			return false
		}
	}
	return true
}

// plainSame holds two types against each other list by list.
func plainSame(a, b api.Type) bool {
	l, m := each(a), each(b)
	return slices.EqualFunc(l, m, func(x, y api.Type) bool {
		return [2]int{x.Kind, x.N} == [2]int{y.Kind, y.N} && x.Name == y.Name && len(x.Args) == len(y.Args)
	})
}
