package mean

import (
	"athanor/api"
	"athanor/ints"
)

// makeEvaluators lays each kind's evaluator at its number.
func makeEvaluators() [api.ExPrint + 1]evaluator {
	return [api.ExPrint + 1]evaluator{
		api.ExVar:   variable,
		api.ExInt:   integer,
		api.ExFun:   function,
		api.ExApp:   application,
		api.ExLet:   let,
		api.ExRec:   recursive,
		api.ExCase:  choice,
		api.ExCon:   construction,
		api.ExPrim:  operation,
		api.ExPrint: printing,
	}
}

func variable(r *run, f frame) {
	r.tell(f.around.find(f.e.Name))
}

func integer(r *run, f frame) {
	r.tell(value{n: f.e.N})
}

func function(r *run, f frame) {
	r.tell(closed(f))
}

// closed is the function of an ExFun or an ExRec.
func closed(f frame) value {
	return value{more: &more{fun: f.e, around: f.around}}
}

func application(r *run, f frame) {
	if r.have(f, 2) {
		arg := r.take()
		r.apply(r.take(), arg)
	}
}

func let(r *run, f frame) {
	if r.have(f, 1) {
		r.begin(&f.e.Args[1], f.around.with(f.e.Name, r.take()))
	}
}

func recursive(r *run, f frame) {
	r.begin(&f.e.Args[1], f.around.with(f.e.Name, closed(f)))
}

func choice(r *run, f frame) {
	if !r.have(f, 1) {
		return
	}
	v := r.take()
	for i := range f.e.Pats {
		if around, ok := r.meets(&f.e.Pats[i], v, f.around); ok {
			r.begin(&f.e.Args[i+1], around)
			return
		}
	}
}

// meets tells whether a pattern meets a value, and what is bound then.
func (r *run) meets(p *api.Pat, v value, around *bound) (*bound, bool) {
	switch p.Kind {
	case api.PatVar:
		return around.with(p.Name, v), true
	case api.PatInt:
		return around, v.n == p.N
	case api.PatCon:
		ok := v.n == r.tags[p.Name]
		for i := 0; ok && i < len(p.Args); i++ {
			around, ok = r.meets(&p.Args[i], v.more.args[i], around)
		}
		return around, ok
	}
	return around, true
}

func construction(r *run, f frame) {
	n := len(f.e.Args)
	if !r.have(f, n) {
		return
	}
	args := make([]value, n)
	for i := range args {
		args[n-1-i] = r.take()
	}
	r.tell(made(r.tags[f.e.Name], args...))
}

func operation(r *run, f frame) {
	if !r.have(f, 2) {
		return
	}
	b, a := r.take(), r.take()
	n, ok := ints.Do(ints.Op(f.e.Name), a.n, b.n)
	if !ok {
		r.end = api.RunDiv
		return
	}
	// Of < and == it is a tag, which need not be told from an integer: that of True is 1, that of False 0.
	r.tell(value{n: n})
}

func printing(r *run, f frame) {
	if r.have(f, 1) {
		r.write(r.take().n)
		r.tell(made(r.tags["Unit"]))
	}
}
