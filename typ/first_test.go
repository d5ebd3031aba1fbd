package typ

import (
	"fmt"
	"math/rand"
	"slices"
	"testing"

	"athanor/api"
	"athanor/parse"
	"athanor/scope"
)

// declared is the types that a text declares, and those that every program has.
func declared(t *testing.T, s string) []api.Decl {
	t.Helper()
	p, at, err := parse.Parse(s + " 1")
	if err != api.OK {
		t.Fatalf("%q: %v at %d", s, err, at)
	}
	return scope.All(p)
}

func checkFirst(t *testing.T, l []api.Decl, x api.Type) bool {
	t.Helper()
	got := First(l, x)
	if want := plainFirst(l, x); got != want {
		t.Fatalf("First(%.1000s, %.200s) is %v", fmt.Sprint(l), text(x), got)
	}
	return got
}

func TestFirst(t *testing.T) {
	l := declared(t, `
		type fine = F int; type box 'a = B 'a | E; type full 'a 'b = G int 'a (list 'b) | H | I bool (box (full 'b 'a));
		type fun0 = J (int -> int); type fun1 = K | L int | M int bool (int -> int); type fundeep = N (list (list (box (int -> int)))); type funvar 'a = O ('a -> 'a); type funarg = P (list int) (box int (int -> int));
		type through = Q fun0; type far = R int (box through) far | S; type farther = T (list (list (box far)));
		type self = U self | V; type ping = W pong; type pong = X (list ping); type ping2 = Y pong2; type pong2 = Z ping2 | AA (int -> int);
		type gone = BB nope; type gonefun = CC (nope (int -> int)); type gonefar = DD (nope (list through)); type gonefine = EE (nope fine (nope int));
	`)
	for s, want := range map[string]bool{
		"int": true, "'1": true, "'a": true, "unit": true, "bool": true, "list int": true, "list '1": true, "list (list bool)": true, "list": true, "int -> int": false, "list (int -> int)": false, "list (list (list ('1 -> '2)))": false, "'1 -> int": false,
		"fine": true, "box int": true, "box fine": true, "full int bool": true, "full (box fine) (list (full '1 '2))": true, "box (int -> int)": false, "full int (int -> int)": false, "full (int -> int) int": false,
		"fun0": false, "fun1": false, "fundeep": false, "funvar int": false, "funvar": false, "funarg": false, "box fun0": false, "list (list fun1)": false, "full int fundeep": false, "full (funvar int) int": false,
		"through": false, "far": false, "farther": false, "list farther": false, "self": true, "ping": true, "pong": true, "box (full ping pong)": true, "ping2": false, "pong2": false, "full ping ping2": false,
		"nope": false, "list nope": false, "list (list nope)": false, "full int nope": false, "full nope int": false, "gone": true, "box gone": true, "gonefun": false, "gonefar": false, "gonefine": true, "full gone nope": false,
		"fine (int -> int)": false, "fine nope": false, "fine int int": true, "box": true, "box int int int": true, "unit (list int)": true, "Fine": false, "F": false,
	} {
		if got := checkFirst(t, l, ty(s)); got != want {
			t.Errorf("%s: %v", s, got)
		}
		// The types that there are need not be in this order.
		turned := slices.Clone(l)
		slices.Reverse(turned)
		if got := checkFirst(t, turned, ty(s)); got != want {
			t.Errorf("%s, turned: %v", s, got)
		}
	}
	for s, want := range map[string]bool{"int": true, "'1": true, "'a": true, "int -> int": false, "list": false, "list int": false, "t": false} {
		if checkFirst(t, nil, ty(s)) != want || checkFirst(t, []api.Decl{}, ty(s)) != want || checkFirst(t, []api.Decl{{Name: "u"}}, ty(s)) != want {
			t.Errorf("%s, of no types", s)
		}
	}
}

// TestFirstOfName: of two types of one Name the first is meant, at the top and in a Field.
func TestFirstOfName(t *testing.T) {
	fine := func(name string) api.Decl {
		return api.Decl{Name: name, Cons: []api.Con{{Name: "A"}, {Name: "B", Fields: []api.Type{integer}}}}
	}
	bad := func(name string) api.Decl {
		return api.Decl{Name: name, Cons: []api.Con{{Name: "C"}, {Name: "D", Fields: []api.Type{integer, fun(integer, integer)}}}}
	}
	user := func(name string) api.Decl {
		return api.Decl{Name: "user", Cons: []api.Con{{Name: "E", Fields: []api.Type{con("none", con(name))}}}}
	}
	for _, name := range []string{"t", "", "int", "'a", "\xff"} {
		for _, c := range []struct {
			l    []api.Decl
			want bool
		}{
			{[]api.Decl{fine(name), user(name)}, true}, {[]api.Decl{bad(name), user(name)}, false}, {[]api.Decl{fine(name), bad(name), user(name)}, true}, {[]api.Decl{bad(name), fine(name), user(name)}, false},
			{[]api.Decl{user(name), fine(name), bad(name), bad(name)}, true}, {[]api.Decl{user(name), bad(name), fine(name), fine(name)}, false}, {[]api.Decl{fine("x"), fine(name), bad("user"), bad(name), user(name)}, true},
		} {
			if got := checkFirst(t, c.l, con(name)); got != c.want {
				t.Errorf("%q: %v", name, got)
			}
			// The first of the two users may be a bad one.
			of := slices.IndexFunc(c.l, func(d api.Decl) bool { return d.Name == "user" })
			want := c.want && c.l[of].Cons[0].Name == "E"
			if got := checkFirst(t, c.l, con("user")); got != want {
				t.Errorf("user of %q: %v", name, got)
			}
		}
	}
	// A type whose Name is met again within: the second one of that Name is never looked at.
	l := []api.Decl{{Name: "t", Cons: []api.Con{{Fields: []api.Type{con("u", con("t"))}}}}, {Name: "u"}, bad("t"), bad("u")}
	for _, s := range []string{"t", "u", "u t", "t u"} {
		if !checkFirst(t, l, ty(s)) {
			t.Error(s)
		}
	}
}

// TestFirstOfAny: kinds that there are not, and what a kind does not have.
func TestFirstOfAny(t *testing.T) {
	f := fun(integer, integer)
	holder := func(field api.Type) []api.Decl {
		return []api.Decl{{Name: "t", Cons: []api.Con{{Name: "A", Fields: []api.Type{integer, field}}}}, {Name: "bad", Cons: []api.Con{{Name: "B", Fields: []api.Type{f}}}}, {Name: "fine", Params: []string{"a"}}}
	}
	for _, kind := range []int{-1 << 63, -1, 0, 1, 2, 3, 4, 5, 9, 1<<32 + 1, 1<<32 + 4, 1<<63 - 1} {
		for _, args := range [][]api.Type{nil, {integer}, {integer, integer}, {f}, {integer, f}, {integer, integer, con("bad")}, {con("nope")}} {
			for _, name := range []string{"", "fine", "bad", "nope"} {
				x := api.Type{Kind: kind, Name: name, N: 3, Args: args}
				for _, y := range []api.Type{x, con("fine", x), con("fine", integer, con("fine", x)), {Kind: 1, Args: []api.Type{x}}, {Kind: 2, Args: []api.Type{integer, x}}} {
					checkFirst(t, holder(integer), y)
					checkFirst(t, holder(y), con("t"))
					checkFirst(t, holder(y), con("fine", con("fine"), con("t")))
					if y.Kind == 1 || y.Kind == 2 {
						if !First(holder(integer), y) {
							t.Errorf("%s", text(y))
						}
					}
				}
				known := kind == 1 || kind == 2 || kind == 4
				if First(holder(integer), x) && !known {
					t.Errorf("%s", text(x))
				}
				// A kind that there is not is no function, and hides none.
				hasFun := kind == 3 || kind == 4 && name == "bad" || slices.ContainsFunc(args, func(a api.Type) bool { return a.Kind == 3 || a.Name == "bad" })
				if got := First(holder(con("nope", x)), con("t")); got == hasFun {
					t.Errorf("%s in a field: %v", text(x), got)
				}
			}
		}
	}
}

// TestFirstGraphs: three types, each of which stands in some of the others, and has a function or has not.
func TestFirstGraphs(t *testing.T) {
	names := []string{"a", "b", "c"}
	for mask := range 1 << 12 {
		var l []api.Decl
		for i, name := range names {
			d := api.Decl{Name: name, Cons: []api.Con{{Name: "X"}, {Name: "Y", Fields: []api.Type{integer}}}}
			bits := mask >> (4 * i)
			for j, other := range names {
				if bits&(1<<j) != 0 {
					x := []api.Type{con(other), con("nope", integer, con(other)), con("d", con(other, integer))}[(i+j)%3]
					d.Cons[j%2].Fields = append(d.Cons[j%2].Fields, x)
				}
			}
			if bits&8 != 0 {
				d.Cons = append(d.Cons, api.Con{Name: "Z", Fields: []api.Type{con("d", con("nope", fun(con("a"), con("b"))))}})
			}
			l = append(l, d)
		}
		l = append(l, api.Decl{Name: "d"})
		for _, s := range []string{"a", "b", "c", "d", "a b", "b (a c)", "d int (d c) b"} {
			checkFirst(t, l, ty(s))
		}
	}
}

// TestFirstFields: a function at each place of all Fields of a type, and of one that stands in it.
func TestFirstFields(t *testing.T) {
	whole := func() []api.Decl {
		return declared(t, "type a 'x = A | B int 'x (list (box 'x)) | C | D bool; type box 'x = E (list (list 'x)) (box int) | F (a (a 'x)); type other = G other;")
	}
	if l := whole(); !checkFirst(t, l, ty("a int")) || !checkFirst(t, l, ty("box int")) {
		t.Error("a type without functions")
	}
	for i := range whole() {
		for j := range whole()[i].Cons {
			for k := range whole()[i].Cons[j].Fields {
				for n := range each(whole()[i].Cons[j].Fields[k]) {
					l := whole()
					*nodeAt(&l[i].Cons[j].Fields[k], n) = fun(integer, integer)
					within := i > 1 && l[i].Name != "other" // bool and unit have no Fields
					for s, want := range map[string]bool{"a int": !within, "list (box int)": !within, "other": l[i].Name != "other", "bool": true, "list int": l[i].Name != "list"} {
						if l[i].Name == "a" || l[i].Name == "box" {
							want = want && s != "list (box int)"
						}
						if got := checkFirst(t, l, ty(s)); got != want {
							t.Errorf("a function in %s, %s %d, %d: %s is %v", l[i].Name, l[i].Cons[j].Name, k, n, s, got)
						}
					}
				}
			}
		}
	}
}

func TestFirstLarge(t *testing.T) {
	l := []api.Decl{{Name: "w"}, {Name: "d"}, {Name: "m"}}
	for i, x := range sized(1024) {
		if !checkFirst(t, l, x) || checkFirst(t, l, sized(1025)[i]) {
			t.Error(i)
		}
		*nodeAt(&x, 1023) = con("nope")
		if checkFirst(t, l, x) {
			t.Error(i)
		}
	}
	for n, want := range map[int]bool{1023: true, 1024: false} {
		if got := checkFirst(t, l, api.Type{Kind: api.TyInt, Args: times(n, integer)}); got != want {
			t.Error(n)
		}
	}
	// Fields may be of any size, and as many types as there are may stand in one another.
	const n = 100000
	var long []api.Decl
	for i := range n {
		long = append(long, api.Decl{Name: fmt.Sprint("t", i), Cons: []api.Con{{Fields: []api.Type{con("x", con(fmt.Sprint("t", i+1)), con(fmt.Sprint("t", i/2)))}}}})
	}
	if !First(long, con("t0")) || !First(long, con("t77777")) || First(long, con("t100000")) {
		t.Error("a long way")
	}
	long[n-1].Cons[0].Fields = append(long[n-1].Cons[0].Fields, fun(integer, integer))
	if First(long, con("t0")) || First(long, con("t99999")) {
		t.Error("a function at the end of a long way")
	}
	for _, inner := range []api.Type{integer, fun(integer, integer), con("bad")} {
		x := inner
		for range 1<<16 - 2 {
			x = con("nope", x)
		}
		l := []api.Decl{{Name: "t", Cons: []api.Con{{Fields: []api.Type{x, con("w", times(1<<18, integer)...)}}}}, {Name: "bad", Cons: []api.Con{{Fields: []api.Type{fun(integer, integer)}}}}}
		if got := First(l, con("t")); got != (inner.Kind == api.TyInt) {
			t.Errorf("%s deep within: %v", text(inner), got)
		}
	}
}

func TestFirstGrown(t *testing.T) {
	r := rand.New(rand.NewSource(15))
	counts := map[bool]int{}
	for range 30000 {
		counts[growFirst(t, r)]++
	}
	if counts[true] < 5000 || counts[false] < 5000 {
		t.Error(counts)
	}
}

// growFirst asks of declared types, and of a type, by chance.
func growFirst(t *testing.T, r *rand.Rand) bool {
	t.Helper()
	functions := []int{3, 30, 1000}[r.Intn(3)]
	var grow func(depth int) api.Type
	grow = func(depth int) api.Type {
		k := r.Intn(functions)
		switch {
		case k == 0 && depth > 0:
			return fun(grow(depth-1), grow(depth-1))
		case k == 1 && r.Intn(20) == 0:
			return api.Type{Kind: r.Intn(9) - 2, Name: "t1", Args: []api.Type{integer, fun(integer, integer)}}
		case depth == 0 || r.Intn(4) == 0:
			return []api.Type{integer, named("a"), v(1), con("t0")}[r.Intn(4)]
		}
		x := con(fmt.Sprint("t", r.Intn(6)))
		for range r.Intn(3) {
			x.Args = append(x.Args, grow(depth-1))
		}
		return x
	}
	var l []api.Decl
	for range r.Intn(8) {
		d := api.Decl{Name: fmt.Sprint("t", r.Intn(6))}
		for range r.Intn(3) {
			c := api.Con{}
			for range r.Intn(3) {
				c.Fields = append(c.Fields, grow(r.Intn(4)))
			}
			d.Cons = append(d.Cons, c)
		}
		l = append(l, d)
	}
	return checkFirst(t, l, grow(r.Intn(4)))
}
