package scope

import (
	"slices"

	"athanor/api"
	"athanor/parse"
)

// A second reading of the chapter. Types are looked up in lists; an expression is gone through from the inside to the outside: what its parts want is gathered, and what is bound around them is taken out of that.

// want is what an expression wants of what stands around it: that a name is bound, or (lost) nothing that could help.
type want struct {
	name string
	lost bool
	at   int
}

func wants(l []api.Decl, e api.Expr) []want {
	var parts [][]want
	for _, x := range e.Args {
		parts = append(parts, wants(l, x))
	}
	take := func(i int, names ...string) {
		if i < len(parts) {
			parts[i] = slices.DeleteFunc(parts[i], func(w want) bool { return !w.lost && slices.Contains(names, w.name) })
		}
	}
	var own []want
	switch e.Kind {
	case api.ExVar:
		own = []want{{name: e.Name, at: e.At}}
	case api.ExFun:
		take(0, e.Name)
	case api.ExLet:
		take(1, e.Name)
	case api.ExRec:
		take(0, e.Name, e.Param)
		take(1, e.Name)
	case api.ExCon:
		if !plainCon(l, e.Name, len(e.Args)) {
			own = []want{{lost: true, at: e.At}}
		}
	case api.ExCase:
		for i, p := range e.Pats {
			var names []string
			var lost []want
			for _, x := range row(p) {
				if x.Kind == api.PatCon && !plainCon(l, x.Name, len(x.Args)) || x.Kind == api.PatVar && slices.Contains(names, x.Name) {
					lost = append(lost, want{lost: true, at: x.At})
				}
				if x.Kind == api.PatVar {
					names = append(names, x.Name)
				}
			}
			take(i+1, names...)
			if i+1 < len(parts) {
				parts[i+1] = append(lost, parts[i+1]...)
			}
		}
	}
	return append(own, slices.Concat(parts...)...)
}

// row is a pattern and all those within, side by side.
func row(p api.Pat) []api.Pat {
	out := []api.Pat{p}
	for _, x := range p.Args {
		out = append(out, row(x)...)
	}
	return out
}

// plainCon tells whether one of the types has that constructor with so many fields.
func plainCon(l []api.Decl, name string, args int) bool {
	for _, d := range l {
		for _, c := range d.Cons {
			if c.Name == name {
				return len(c.Fields) == args
			}
		}
	}
	return false
}

func plainFree(e api.Expr) []string {
	var out []string
	for _, w := range wants(nil, e) {
		if !w.lost && !slices.Contains(out, w.name) {
			out = append(out, w.name)
		}
	}
	return out
}

// three is the types of every program, as a program would declare them.
var three = readThree()

func readThree() []api.Decl {
	p, _, err := parse.Parse("type unit = Unit; type bool = False | True; type list 'a = Nil | Cons 'a (list 'a); 1")
	if err != api.OK {
		panic(err)
	}
	for i := range p.Decls {
		p.Decls[i].At = 0
	}
	return p.Decls
}

func plainCheck(p api.Program) api.Fault {
	if !parse.Check(p) {
		return api.Fault{Code: api.ErrArg}
	}
	all := slices.Concat(three, p.Decls)
	for i, d := range all {
		if i >= 3 && (d.Name == "int" || takenName(all[:i], d) || takenCon(all[:i], d)) {
			return api.Fault{Code: api.ErrDecl, At: d.At}
		}
	}
	for _, d := range p.Decls {
		for _, c := range d.Cons {
			for _, x := range c.Fields {
				if strange(all, d, x) {
					return api.Fault{Code: api.ErrDecl, At: d.At}
				}
			}
		}
	}
	for _, w := range wants(all, p.Main) {
		return api.Fault{Code: api.ErrScope, At: w.at}
	}
	return api.Fault{}
}

func takenName(ahead []api.Decl, d api.Decl) bool {
	for _, a := range ahead {
		if a.Name == d.Name {
			return true
		}
	}
	params := slices.Clone(d.Params)
	slices.Sort(params)
	return len(slices.Compact(params)) < len(d.Params)
}

func takenCon(ahead []api.Decl, d api.Decl) bool {
	var names []string
	for _, a := range append(slices.Clone(ahead), d) {
		for _, c := range a.Cons {
			names = append(names, c.Name)
		}
	}
	slices.Sort(names)
	return len(slices.Compact(slices.Clone(names))) < len(names)
}

func strange(all []api.Decl, d api.Decl, x api.Type) bool {
	for _, y := range x.Args {
		if strange(all, d, y) {
			return true
		}
	}
	switch x.Kind {
	case api.TyVar:
		return !slices.Contains(d.Params, x.Name)
	case api.TyCon:
		i := slices.IndexFunc(all, func(a api.Decl) bool { return a.Name == x.Name })
		return i < 0 || len(all[i].Params) != len(x.Args)
	}
	return false
}
