package infer

import (
	"fmt"
	"math/bits"
	"slices"
	"testing"

	"athanor/api"
)

// faulted is an expression of many things that may be wrong with it, in the order in which they are looked at: the thing i is at the place 10 * i.
type faulted struct {
	name   string
	things int
	occurs []int // those whose error is ErrOccurs
	build  func(bad func(i int) bool) api.Expr
}

// within is an integer in which something is wrong, if bad, at that place.
func within(bad bool, place int) api.Expr {
	if bad {
		return at(place, app(one, one))
	}
	return one
}

// looping is likewise, with ErrOccurs.
func looping(bad bool, place int) api.Expr {
	if bad {
		return let("u", fun("x", at(place, app(name("x"), name("x")))), one)
	}
	return one
}

// valued is what is at that place, has that expression within, and is an integer, or (bad) something else.
func valued(in api.Expr, bad bool, place int, other api.Expr) api.Expr {
	if bad {
		return at(place, let("u", in, other))
	}
	return at(place, let("u", in, one))
}

// part is a pattern that takes an integer, or (bad) something else.
func part(bad bool, place int) api.Pat {
	if bad {
		return patAt(place, pcon("True"))
	}
	return patAt(place, pint(1))
}

func faulteds() []faulted {
	return []faulted{
		{"fun", 1, nil, func(bad func(int) bool) api.Expr { return at(-1, fun("v", within(bad(0), 0))) }},
		{"app", 3, nil, func(bad func(int) bool) api.Expr {
			f := let("u", within(bad(0), 0), fun("v", one))
			if bad(2) {
				f.Args[1] = one
			}
			return at(20, app(at(-1, f), within(bad(1), 10)))
		}},
		{"app of itself", 3, []int{1, 2}, func(bad func(int) bool) api.Expr {
			f, a := fun("v", one), one
			if bad(2) {
				f, a = name("f"), name("f")
			}
			return fun("f", at(20, app(at(-1, let("u", within(bad(0), 0), f)), at(-2, let("u", looping(bad(1), 10), a)))))
		}},
		{"app of what takes another", 3, []int{0}, func(bad func(int) bool) api.Expr {
			f := fun("v", prim("+", name("v"), one))
			return at(20, app(at(-1, let("u", looping(bad(0), 0), f)), valued(within(bad(1), 10), bad(2), -2, con("Nil"))))
		}},
		{"let", 2, nil, func(bad func(int) bool) api.Expr {
			return at(-1, let("v", at(-2, printed(within(bad(0), 0))), at(-3, printed(within(bad(1), 10)))))
		}},
		{"rec", 3, []int{1}, func(bad func(int) bool) api.Expr {
			first := valued(within(bad(0), 0), bad(1), 10, con("Cons", app(name("f"), one), con("Nil")))
			return at(-1, rec("f", "v", first, at(-3, printed(within(bad(2), 20)))))
		}},
		{"rec with a result", 3, []int{0}, func(bad func(int) bool) api.Expr {
			// What the function tells is an integer already.
			first := valued(prim("+", app(name("f"), one), looping(bad(0), 0)), bad(1), 10, con("Nil"))
			return at(-1, rec("f", "v", first, at(-3, printed(within(bad(2), 20)))))
		}},
		{"case", 12, nil, func(bad func(int) bool) api.Expr {
			of := at(-1, con("Cons", within(bad(0), 0), con("Nil")))
			var pats []api.Pat
			var branches []api.Expr
			for _, i := range []int{1, 4, 8} {
				p := patAt(10*i+10, pcon("Cons", none, none))
				if bad(i) {
					p.Args[1] = part(true, 10*i)
				}
				if bad(i + 1) {
					p.Args[0] = patAt(-2, pcon("Nil"))
				}
				pats = append(pats, p)
				// The first branch may be of any type.
				branches = append(branches, valued(within(bad(i+2), 10*i+20), i > 1 && bad(i+3), 10*i+30, con("Nil")))
			}
			return at(-1, cased(of, pats, branches...))
		}},
		{"case that loops", 3, []int{0, 1, 2}, func(bad func(int) bool) api.Expr {
			b := valued(looping(bad(1), 10), true, 20, name("x"))
			if bad(2) {
				b.Args[1] = con("Cons", name("x"), con("Nil"))
			}
			return fun("x", cased(looping(bad(0), 0), []api.Pat{none, none}, at(-1, name("x")), b))
		}},
		{"con", 8, []int{2}, func(bad func(int) bool) api.Expr {
			return at(-1, con("Four", valued(within(bad(0), 0), bad(1), 10, con("Nil")), valued(looping(bad(2), 20), bad(3), 30, con("True")), valued(within(bad(4), 40), bad(5), 50, fun("x", one)), valued(within(bad(6), 60), bad(7), 70, con("Unit"))))
		}},
		{"con that loops", 3, []int{1, 2}, func(bad func(int) bool) api.Expr {
			second := at(20, let("u", looping(bad(1), 10), con("Nil")))
			if bad(2) {
				second.Args[1] = name("x")
			}
			return fun("x", at(-1, con("Cons", at(-2, let("u", within(bad(0), 0), name("x"))), second)))
		}},
		{"prim", 4, []int{2}, func(bad func(int) bool) api.Expr {
			return at(-1, prim("==", valued(within(bad(0), 0), bad(1), 10, con("True")), valued(looping(bad(2), 20), bad(3), 30, con("Nil"))))
		}},
		{"print", 2, []int{0}, func(bad func(int) bool) api.Expr {
			return at(-1, printed(valued(looping(bad(0), 0), bad(1), 10, con("Unit"))))
		}},
	}
}

// faultDecls has the types that stand in these expressions.
func faultDecls() []api.Decl {
	return mustRead("type four = Four int int int int; type r = R int r | E; 1").Decls
}

// want is what is wrong first.
func (f faulted) want(mask int) api.Fault {
	if mask == 0 {
		return api.Fault{}
	}
	first := bits.TrailingZeros(uint(mask))
	if slices.Contains(f.occurs, first) {
		return api.Fault{Code: api.ErrOccurs, At: 10 * first}
	}
	return api.Fault{Code: api.ErrUnify, At: 10 * first}
}

func (f faulted) of(mask int) api.Expr {
	return f.build(func(i int) bool { return mask&(1<<i) != 0 })
}

// checkFaulted asks for a program that is like the expression, but for its type.
func checkFaulted(t *testing.T, e api.Expr, want api.Fault, what ...any) {
	t.Helper()
	p := api.Program{Decls: faultDecls(), Main: at(-100, let("v", e, fun("l", name("l"))))}
	if got, fault := checkAll(t, p); fault != want {
		t.Errorf("%v: %s, %v, not %v: %s", what, got, fault, want, brief(p))
	}
}

// TestEachPlace: at each place at which types are unified each fault alone, and all others behind it or not.
func TestEachPlace(t *testing.T) {
	for _, f := range faulteds() {
		for mask := range 1 << f.things {
			checkFaulted(t, f.of(mask), f.want(mask), f.name, fmt.Sprintf("%b", mask))
		}
	}
}

// TestPatternParts: a pattern's parts are ahead of it, from the left.
func TestPatternParts(t *testing.T) {
	decls := mustRead("type r = R r int r | E; type s = S r int r; type g = G int bool int unit int (list int) int r; 1").Decls
	for mask := range 1 << 9 {
		bad := func(i int) bool { return mask&(1<<i) != 0 }
		or := func(i int, good, other api.Pat) api.Pat {
			if bad(i) {
				good = other
			}
			return patAt(10*i, good)
		}
		list := pcon("Cons", pint(3), none)
		r := pcon("R", patAt(-1, none), or(5, pint(1), pcon("True")), or(6, pcon("E"), pint(1)))
		if bad(7) {
			r.Name = "S"
		}
		p := pcon("G", or(0, pint(1), pcon("Nil")), or(1, pcon("True"), pint(1)), or(2, pvar("x"), pcon("Unit")), or(3, pcon("Unit"), list), patAt(-1, pvar("y")), or(4, list, pcon("E")), patAt(-1, none), patAt(70, r))
		of := app(name("any"), one)
		if bad(8) {
			of = con("Nil")
		}
		main := let("v", rec("any", "z", app(name("any"), name("z")), cased(of, []api.Pat{patAt(80, p)}, one)), fun("l", one))
		want := faulted{}.want(mask)
		if got, fault := checkAll(t, api.Program{Decls: decls, Main: at(-100, main)}); fault != want {
			t.Errorf("%b: %s, %v, not %v", mask, got, fault, want)
		}
	}
}

// TestFaultWithin: a fault within each kind is told with its own place and error, whatever is behind it.
func TestFaultWithin(t *testing.T) {
	t.Parallel()
	for _, f := range faulteds() {
		for i := range f.things {
			e := f.of(1 << i)
			for _, g := range faulteds() {
				// The other expression, moved: at its places there is none of the first one's.
				for j := range g.things {
					behind := moved(g.of(1<<j), 1000)
					want := f.want(1 << i)
					for k, x := range []api.Expr{
						app(e, behind), let("w", e, behind), rec("w", "w", e, behind), cased(e, []api.Pat{none, none}, behind, behind), cased(one, []api.Pat{none, none}, e, behind), con("Cons", e, behind), con("Cons", name("v"), con("Cons", e, behind)), prim("+", e, behind), prim("<", one, e), printed(e), fun("w", app(e, behind)),
					} {
						if k == 6 {
							x = fun("v", x)
						}
						checkFaulted(t, x, want, f.name, i, g.name, j, k)
					}
				}
			}
		}
	}
}

// moved is the expression at other places.
func moved(e api.Expr, by int) api.Expr {
	e.At += by
	e.Args = slices.Clone(e.Args)
	for i, x := range e.Args {
		e.Args[i] = moved(x, by)
	}
	e.Pats = movedPats(e.Pats, by)
	return e
}

func movedPats(l []api.Pat, by int) []api.Pat {
	l = slices.Clone(l)
	for i := range l {
		l[i].At += by
		l[i].Args = movedPats(l[i].Args, by)
	}
	return l
}
