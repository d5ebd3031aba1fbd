package infer

import (
	"athanor/api"
	"athanor/scope"
	"athanor/typ"
)

// walk is the way through a program from the left. The first fault stays, and behind it nothing more is looked at.
type walk struct {
	solver *typ.Solver
	links  links
	types  []api.Decl
	fault  api.Fault
}

func (w *walk) failed() bool {
	return w.fault.Code != api.OK
}

func (w *walk) fail(err api.Errno, at int) {
	if !w.failed() {
		w.fault = api.Fault{Code: err, At: at}
	}
}

func (w *walk) fresh() api.Type {
	w.links.add()
	return w.solver.Fresh()
}

func (w *walk) several(n int) []api.Type {
	var l []api.Type
	for range n {
		l = append(l, w.fresh())
	}
	return l
}

// unify makes two types the same; at is the place of the fault, if they can't be.
func (w *walk) unify(a, b api.Type, at int) {
	if w.failed() {
		return
	}
	if err := w.solver.Unify(a, b); err != api.OK {
		w.fail(err, at)
		return
	}
	w.links.join(&a, &b)
}

// expr tells an expression's type.
func (w *walk) expr(e api.Expr, around names) api.Type {
	if w.failed() {
		return api.Type{}
	}
	switch e.Kind {
	case api.ExVar:
		return w.taken(find(around, e.Name))
	case api.ExFun:
		from := w.fresh()
		return function(from, w.expr(e.Args[0], with(around, e.Name, closed(from))))
	case api.ExApp:
		t, u, r := w.expr(e.Args[0], around), w.expr(e.Args[1], around), w.fresh()
		w.unify(t, function(u, r), e.At)
		return r
	case api.ExLet:
		t := w.expr(e.Args[0], around)
		return w.expr(e.Args[1], with(around, e.Name, w.opened(t, e.Args[0].At, around)))
	case api.ExRec:
		return w.rec(e, around)
	case api.ExCase:
		return w.cases(e, around)
	case api.ExCon:
		return w.con(e, around)
	case api.ExPrim:
		w.integers(e.Args, around)
		if e.Name == "<" || e.Name == "==" {
			return declared("bool")
		}
		return integer()
	case api.ExPrint:
		w.integers(e.Args, around)
		return declared("unit")
	}
	return integer()
}

func (w *walk) integers(l []api.Expr, around names) {
	for _, e := range l {
		w.unify(w.expr(e, around), integer(), e.At)
	}
}

func (w *walk) rec(e api.Expr, around names) api.Type {
	first, second := e.Args[0], e.Args[1]
	a, r := w.fresh(), w.fresh()
	f := function(a, r)
	// Of the two names alike the one that is bound last is meant: the parameter.
	within := with(with(around, e.Name, closed(f)), e.Param, closed(a))
	w.unify(w.expr(first, within), r, first.At)
	return w.expr(second, with(around, e.Name, w.opened(f, first.At, around)))
}

func (w *walk) cases(e api.Expr, around names) api.Type {
	t, r := w.expr(e.Args[0], around), w.fresh()
	for i, p := range e.Pats {
		it, within := w.pat(p, around)
		w.unify(t, it, p.At)
		branch := e.Args[i+1]
		w.unify(r, w.expr(branch, within), branch.At)
	}
	return r
}

func (w *walk) con(e api.Expr, around names) api.Type {
	t, fields := w.instance(e.Name)
	for i, x := range e.Args {
		w.unify(w.expr(x, around), fields(i), x.At)
	}
	return t
}

// pat tells a pattern's type, and what is bound behind it.
func (w *walk) pat(p api.Pat, around names) (api.Type, names) {
	switch p.Kind {
	case api.PatInt:
		return integer(), around
	case api.PatCon:
		t, fields := w.instance(p.Name)
		for i, x := range p.Args {
			var it api.Type
			it, around = w.pat(x, around)
			w.unify(it, fields(i), x.At)
		}
		return t, around
	}
	t := w.fresh()
	if p.Kind == api.PatVar {
		around = with(around, p.Name, closed(t))
	}
	return t, around
}

// instance tells the type that has a constructor, with fresh variables as its Params, and the constructor's Fields with these.
func (w *walk) instance(con string) (t api.Type, field func(i int) api.Type) {
	at, tag, _ := scope.Find(w.types, con)
	d := w.types[at]
	fresh := w.several(len(d.Params))
	var params []pair[string, api.Type]
	for i, name := range d.Params {
		params = with(params, name, fresh[i])
	}
	return declared(d.Name, fresh...), func(i int) api.Type {
		f := d.Cons[tag].Fields[i]
		// What is larger is refused as it stands, and may be far too large to be copied.
		if typ.Size(f) > api.MaxTypes {
			return f
		}
		return exchanged(f, func(variable api.Type) api.Type { return find(params, variable.Name) })
	}
}
