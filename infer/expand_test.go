package infer

import (
	"math/rand"
	"slices"
	"testing"

	"athanor/api"
	"athanor/scope"
	"athanor/typ"
)

// A third reading, without schemes: what a let or a rec binds is looked at anew wherever its name stands, and all that must be alike is noted first and solved afterwards, in any order.

// term is a node of a type; rep is another one that is the same.
type term struct {
	kind int
	name string
	args []*term
	rep  *term
}

func (t *term) root() *term {
	for t.rep != nil {
		t = t.rep
	}
	return t
}

// meaning is what a name stands for: a type, or what is looked at anew.
type meaning struct {
	name string
	t    *term
	anew func() *term
	more *meaning
}

// expander notes what must be alike.
type expander struct {
	decls []api.Decl
	pairs [][2]*term
	left  int // how many expressions may still be looked at
}

func (x *expander) alike(a, b *term) { x.pairs = append(x.pairs, [2]*term{a, b}) }

func termOf(kind int, name string, args ...*term) *term {
	return &term{kind: kind, name: name, args: args}
}

func (x *expander) unknown() *term { return termOf(api.TyVar, "") }

func (x *expander) expr(e api.Expr, m *meaning) *term {
	x.left--
	if x.left < 0 {
		return x.unknown()
	}
	switch e.Kind {
	case api.ExVar:
		for m.name != e.Name {
			m = m.more
		}
		if m.anew != nil {
			return m.anew()
		}
		return m.t
	case api.ExFun:
		from := x.unknown()
		return termOf(api.TyFun, "", from, x.expr(e.Args[0], &meaning{name: e.Name, t: from, more: m}))
	case api.ExApp:
		out := x.unknown()
		a := x.expr(e.Args[1], m)
		x.alike(x.expr(e.Args[0], m), termOf(api.TyFun, "", a, out))
		return out
	case api.ExLet:
		first := func() *term { return x.expr(e.Args[0], m) }
		// It must have a type, though its name does not stand anywhere.
		first()
		return x.expr(e.Args[1], &meaning{name: e.Name, anew: first, more: m})
	case api.ExRec:
		first := func() *term {
			f, from := x.unknown(), x.unknown()
			x.alike(f, termOf(api.TyFun, "", from, x.expr(e.Args[0], &meaning{name: e.Param, t: from, more: &meaning{name: e.Name, t: f, more: m}})))
			return f
		}
		first()
		return x.expr(e.Args[1], &meaning{name: e.Name, anew: first, more: m})
	case api.ExCase:
		of, out := x.expr(e.Args[0], m), x.unknown()
		for i, p := range e.Pats {
			within := m
			x.alike(x.pat(p, &within), of)
			x.alike(x.expr(e.Args[i+1], within), out)
		}
		return out
	case api.ExCon:
		t, fields := x.con(e.Name)
		for i := range e.Args {
			x.alike(x.expr(e.Args[i], m), fields[i])
		}
		return t
	}
	for _, a := range e.Args {
		x.alike(x.expr(a, m), termOf(api.TyInt, ""))
	}
	switch {
	case e.Kind == api.ExPrint:
		return termOf(api.TyCon, "unit")
	case e.Name == "<" || e.Name == "==":
		return termOf(api.TyCon, "bool")
	}
	return termOf(api.TyInt, "")
}

func (x *expander) pat(p api.Pat, m **meaning) *term {
	switch p.Kind {
	case api.PatInt:
		return termOf(api.TyInt, "")
	case api.PatCon:
		t, fields := x.con(p.Name)
		for i := range p.Args {
			x.alike(x.pat(p.Args[i], m), fields[i])
		}
		return t
	}
	t := x.unknown()
	if p.Kind == api.PatVar {
		*m = &meaning{name: p.Name, t: t, more: *m}
	}
	return t
}

func (x *expander) con(name string) (*term, []*term) {
	for _, d := range x.decls {
		for _, c := range d.Cons {
			if c.Name != name {
				continue
			}
			t, params := termOf(api.TyCon, d.Name), map[string]*term{}
			for _, s := range d.Params {
				params[s] = x.unknown()
				t.args = append(t.args, params[s])
			}
			var fields []*term
			for _, f := range c.Fields {
				fields = append(fields, x.field(f, params))
			}
			return t, fields
		}
	}
	panic("no constructor: " + name)
}

func (x *expander) field(f api.Type, params map[string]*term) *term {
	if f.Kind == api.TyVar {
		return params[f.Name]
	}
	t := termOf(f.Kind, f.Name)
	for _, a := range f.Args {
		t.args = append(t.args, x.field(a, params))
	}
	return t
}

// solved makes all pairs alike; false, if that can't be.
func solved(pairs [][2]*term) bool {
	for len(pairs) > 0 {
		last := len(pairs) - 1
		a, b := pairs[last][0].root(), pairs[last][1].root()
		pairs = pairs[:last]
		switch {
		case a == b:
		case a.kind == api.TyVar:
			a.rep = b
		case b.kind == api.TyVar:
			b.rep = a
		case a.kind != b.kind || a.name != b.name || len(a.args) != len(b.args):
			return false
		default:
			a.rep = b
			for i := range a.args {
				pairs = append(pairs, [2]*term{a.args[i], b.args[i]})
			}
		}
	}
	return true
}

// within tells whether a term has itself within it; state is 1 of those that are being looked at, 2 of those that are done.
func (t *term) within(state map[*term]int) bool {
	t = t.root()
	if state[t] != 0 {
		return state[t] == 1
	}
	state[t] = 1
	for _, a := range t.args {
		if a.within(state) {
			return true
		}
	}
	state[t] = 2
	return false
}

// hasType tells whether what has been noted can be.
func (x *expander) hasType(r *rand.Rand) bool {
	pairs := slices.Clone(x.pairs)
	r.Shuffle(len(pairs), func(i, j int) { pairs[i], pairs[j] = pairs[j], pairs[i] })
	if !solved(pairs) {
		return false
	}
	state := map[*term]int{}
	return !slices.ContainsFunc(x.pairs, func(p [2]*term) bool { return p[0].within(state) })
}

func (t *term) told(known map[*term]string) api.Type {
	t = t.root()
	if t.kind == api.TyVar {
		if known[t] == "" {
			known[t] = letter(len(known))
		}
		return api.Type{Kind: api.TyVar, Name: known[t]}
	}
	out := api.Type{Kind: t.kind, Name: t.name}
	for _, a := range t.args {
		out.Args = append(out.Args, a.told(known))
	}
	return out
}

// checkExpanded holds what is told of a program against the third reading; false, if that would take too long.
func checkExpanded(t *testing.T, r *rand.Rand, p api.Program) bool {
	t.Helper()
	got, fault := Infer(p)
	switch fault.Code {
	case api.ErrArg, api.ErrScope, api.ErrDecl, api.ErrMany:
		return false
	}
	x := &expander{decls: scope.All(p), left: 3000}
	main := x.expr(p.Main, nil)
	if x.left < 0 {
		return false
	}
	if !x.hasType(r) {
		if fault.Code != api.ErrUnify && fault.Code != api.ErrOccurs {
			t.Fatalf("%s\nis %s, %v, and has no type", brief(p), text(got, 2), fault)
		}
		return true
	}
	result := x.unknown()
	x.alike(termOf(api.TyFun, "", termOf(api.TyCon, "list", termOf(api.TyInt, "")), result), main)
	// What has been solved stays so.
	good := x.hasType(r) && !hasOneOf(result.told(map[*term]string{}), plainReader{x.decls}.withFunctions())
	switch {
	case good && fault.Code == api.ErrMain && typ.Size(main.told(map[*term]string{})) > api.MaxTypes:
		// It knows of no limits.
	case !good && fault != (api.Fault{Code: api.ErrMain, At: p.Main.At}):
		t.Fatalf("%s\nis %s, %v, and is no program's", brief(p), text(got, 2), fault)
	case good && (fault != (api.Fault{}) || !alike(got, main.told(map[*term]string{}))):
		t.Fatalf("%s\nis %s, %v, not %s", brief(p), text(got, 2), fault, text(main.told(map[*term]string{}), 2))
	}
	return true
}

// TestExpanded: a program has the type that it has without schemes.
func TestExpanded(t *testing.T) {
	t.Parallel()
	r := rand.New(rand.NewSource(61))
	done := 0
	for i := range 2500 {
		g := &grower{r: r, room: 1 + r.Intn(80), odd: []int{1 << 30, 200, 50}[i%3]}
		if checkExpanded(t, r, g.grow()) {
			done++
		}
	}
	for _, s := range samples() {
		if p := mustRead(s); scope.Check(p) == (api.Fault{}) {
			checkExpanded(t, r, p)
		}
	}
	if done < 2000 {
		t.Errorf("%d programs", done)
	}
}
