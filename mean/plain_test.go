package mean

import (
	"athanor/api"
	"athanor/infer"
	"athanor/scope"
	"athanor/useful"
)

// A second reading of the chapter: functions are Go's own, what is bound stands in maps, and an end is thrown.

type plainInt int

type plainCon struct {
	tag  int
	args []any
}

type plainFun func(arg any) any

// plainEnd is thrown at an end that comes ahead of a value; stuck is thrown where a program that has a type never comes.
type plainEnd int

type stuck string

type plain struct {
	decls       []api.Decl
	fuel, steps int
	writes      []int
}

// plainIn is the integer that differs from n by a multiple of 2^31.
func plainIn(n int) int {
	const around = 1 << 31
	n = (n%around + around) % around
	if n >= around/2 {
		return n - around
	}
	return n
}

func and(around map[string]any, name string, v any) map[string]any {
	out := map[string]any{}
	for k, x := range around {
		out[k] = x
	}
	out[name] = v
	return out
}

func (w *plain) tag(con string) int {
	_, tag, ok := scope.Find(w.decls, con)
	if !ok {
		panic(stuck("no constructor " + con))
	}
	return tag
}

func (w *plain) integer(v any) int {
	n, ok := v.(plainInt)
	if !ok {
		panic(stuck("no integer"))
	}
	return int(n)
}

func (w *plain) apply(f, arg any) any {
	if w.steps == w.fuel {
		panic(plainEnd(api.RunFuel))
	}
	w.steps++
	call, ok := f.(plainFun)
	if !ok {
		panic(stuck("no function"))
	}
	return call(arg)
}

func (w *plain) eval(e api.Expr, around map[string]any) any {
	switch e.Kind {
	case api.ExVar:
		v, ok := around[e.Name]
		if !ok {
			panic(stuck("not bound: " + e.Name))
		}
		return v
	case api.ExInt:
		return plainInt(e.N)
	case api.ExFun:
		return plainFun(func(arg any) any { return w.eval(e.Args[0], and(around, e.Name, arg)) })
	case api.ExApp:
		f := w.eval(e.Args[0], around)
		arg := w.eval(e.Args[1], around)
		return w.apply(f, arg)
	case api.ExLet:
		return w.eval(e.Args[1], and(around, e.Name, w.eval(e.Args[0], around)))
	case api.ExRec:
		var self plainFun
		self = func(arg any) any { return w.eval(e.Args[0], and(and(around, e.Name, self), e.Param, arg)) }
		return w.eval(e.Args[1], and(around, e.Name, self))
	case api.ExCase:
		return w.branch(e, w.eval(e.Args[0], around), around)
	case api.ExCon:
		c := plainCon{tag: w.tag(e.Name)}
		for _, x := range e.Args {
			c.args = append(c.args, w.eval(x, around))
		}
		return c
	case api.ExPrim:
		a := w.integer(w.eval(e.Args[0], around))
		b := w.integer(w.eval(e.Args[1], around))
		return w.do(e.Name, a, b)
	case api.ExPrint:
		n := w.integer(w.eval(e.Args[0], around))
		if len(w.writes) >= 4096 {
			panic(plainEnd(api.RunLong))
		}
		w.writes = append(w.writes, n)
		return plainCon{}
	}
	panic(stuck("no kind"))
}

func (w *plain) branch(e api.Expr, v any, around map[string]any) any {
	for i, p := range e.Pats {
		found := map[string]any{}
		if w.meets(p, v, found) {
			for name, x := range found {
				around = and(around, name, x)
			}
			return w.eval(e.Args[i+1], around)
		}
	}
	panic(stuck("no branch"))
}

func (w *plain) meets(p api.Pat, v any, found map[string]any) bool {
	switch p.Kind {
	case api.PatAny:
		return true
	case api.PatVar:
		found[p.Name] = v
		return true
	case api.PatInt:
		return w.integer(v) == p.N
	}
	c, ok := v.(plainCon)
	if !ok {
		panic(stuck("no constructor"))
	}
	if c.tag != w.tag(p.Name) {
		return false
	}
	for i, x := range p.Args {
		if !w.meets(x, c.args[i], found) {
			return false
		}
	}
	return true
}

func plainBool(yes bool) any {
	if yes {
		return plainCon{tag: 1}
	}
	return plainCon{}
}

func (w *plain) do(sign string, a, b int) any {
	switch sign {
	case "+":
		return plainInt(plainIn(a + b))
	case "-":
		return plainInt(plainIn(a - b))
	case "*":
		return plainInt(plainIn(a * b))
	case "<":
		return plainBool(a < b)
	case "==":
		return plainBool(a == b)
	}
	if b == 0 {
		panic(plainEnd(api.RunDiv))
	}
	if sign == "/" {
		return plainInt(plainIn(a / b))
	}
	return plainInt(plainIn(a % b))
}

// numbers is what a value shows, up to some more than may be shown.
func (w *plain) numbers(v any, l *[]int) {
	if len(*l) > 5000 {
		return
	}
	switch v := v.(type) {
	case plainInt:
		*l = append(*l, int(v))
	case plainCon:
		*l = append(*l, v.tag)
		for _, x := range v.args {
			w.numbers(x, l)
		}
	default:
		panic(stuck("a function is shown"))
	}
}

func (w *plain) run(p api.Program, inputs []int) (r api.Result) {
	defer func() {
		r.Writes = w.writes
		switch x := recover().(type) {
		case nil:
		case plainEnd:
			r.End = int(x)
		default:
			panic(x)
		}
	}()
	var input any = plainCon{}
	f := w.eval(p.Main, nil)
	for i := len(inputs) - 1; i >= 0; i-- {
		input = plainCon{1, []any{plainInt(plainIn(inputs[i])), input}}
	}
	v := w.apply(f, input)
	var shows []int
	w.numbers(v, &shows)
	if len(shows) > 4096 {
		return api.Result{End: api.RunLong}
	}
	return api.Result{End: api.RunDone, Shows: shows}
}

func plainCheck(p api.Program) api.Fault {
	_, second := infer.Infer(p)
	for _, fault := range []api.Fault{scope.Check(p), second, useful.Check(p)} {
		if fault != (api.Fault{}) {
			return fault
		}
	}
	return api.Fault{}
}

// plainRun is what Run and Steps must tell.
func plainRun(p api.Program, inputs []int, fuel int) (api.Result, int, api.Fault) {
	if fault := plainCheck(p); fault != (api.Fault{}) {
		return api.Result{}, 0, fault
	}
	if len(inputs) > 256 || fuel < 0 || fuel > 65536 {
		return api.Result{}, 0, api.Fault{Code: api.ErrArg}
	}
	w := &plain{decls: scope.All(p), fuel: fuel}
	r := w.run(p, inputs)
	return r, w.steps, api.Fault{}
}
