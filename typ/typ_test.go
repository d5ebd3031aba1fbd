package typ

import (
	"fmt"
	"slices"
	"testing"

	"athanor/api"
)

func TestExamples(t *testing.T) {
	steps(t, 3, "'1 -> int = list '2 -> '3", "'1 : list '2")
	steps(t, 1, "'1 = list '1 ! occurs")
	if got, err := Canon(ty("'7 -> '3 -> '7")); err != api.OK || !alike(got, ty("'a -> 'b -> 'a")) {
		t.Error(text(got), err)
	}
}

func TestFresh(t *testing.T) {
	s, other := New(), New()
	if s.Vars() != 0 {
		t.Errorf("%d variables of a new solver", s.Vars())
	}
	for n := 1; n <= 5000; n++ {
		if got := s.Fresh(); !alike(got, v(n)) {
			t.Fatalf("%s, not '%d", text(got), n)
		}
		if got := s.Vars(); got != n {
			t.Fatalf("%d variables, not %d", got, n)
		}
	}
	if other.Vars() != 0 || !alike(other.Fresh(), v(1)) || s.Vars() != 5000 {
		t.Error("one solver changes another")
	}
	if err := other.Unify(v(2), integer); err != api.ErrArg {
		t.Errorf("a variable of another solver: %v", err)
	}
	// What is unified, and what is refused, makes no variables.
	for _, x := range []api.Type{integer, v(5), v(5001), named("a"), wide(1025)} {
		s.Unify(v(1), x)
		s.Unify(x, v(2))
		s.Apply(x)
		if s.Vars() != 5000 {
			t.Fatalf("%d variables", s.Vars())
		}
	}
	if got := s.Fresh(); !alike(got, v(5001)) {
		t.Errorf("%s", text(got))
	}
}

// TestFreshBehind: a variable that is made behind others that are bound is not bound.
func TestFreshBehind(t *testing.T) {
	b := newBoth(t, 0)
	for n := 1; n < 200; n++ {
		b.fresh(1)
		if got, err := b.apply(v(n)); err != api.OK || !alike(got, v(n)) {
			t.Errorf("%d: %s, %v", n, text(got), err)
		}
		if n%3 == 0 {
			b.unify(v(n), con("t", v(n-1), v(n-2)))
		}
		if n%3 == 1 && n > 1 {
			b.unify(v(n-3), con("u", v(n)))
		}
	}
}

func TestNil(t *testing.T) {
	var s *Solver
	for range 3 {
		if got := s.Fresh(); !isZero(got) {
			t.Error(text(got))
		}
		if s.Vars() != 0 {
			t.Error(s.Vars())
		}
	}
	for _, x := range []api.Type{integer, {}, v(0), v(1), named("a"), con("t"), fun(integer, integer), wide(1024), wide(1025), doubled(60)} {
		if got, err := s.Apply(x); err != api.ErrArg || !isZero(got) {
			t.Errorf("Apply: %s, %v", text(got), err)
		}
		if err := s.Unify(x, x); err != api.ErrArg {
			t.Errorf("Unify: %v", err)
		}
		if err := s.Unify(integer, x); err != api.ErrArg {
			t.Errorf("Unify: %v", err)
		}
	}
}

// noTypes is what is no type of a solver with vars variables.
func noTypes(vars int) []api.Type {
	least, most := -1<<63, 1<<63-1
	l := []api.Type{
		v(0), v(-1), v(vars + 1), v(least), v(most), v(1 << 32), v(1<<32 + 1), named("a"), {Kind: api.TyVar, Name: "a", N: 1}, {Kind: api.TyVar, N: 1, Args: []api.Type{integer}},
		{Kind: api.TyInt, Name: "int"}, {Kind: api.TyInt, N: 1}, {Kind: api.TyInt, N: -1}, {Kind: api.TyInt, Args: []api.Type{integer}}, {Kind: api.TyInt, Args: []api.Type{integer, integer}},
		{Kind: api.TyFun}, {Kind: api.TyFun, Args: times(1, integer)}, {Kind: api.TyFun, Args: times(3, integer)}, {Kind: api.TyFun, Name: "f", Args: times(2, integer)}, {Kind: api.TyFun, N: 1, Args: times(2, integer)},
		con(""), con("", integer), {Kind: api.TyCon, Name: "t", N: 1}, {Kind: api.TyCon, Name: "t", N: -1, Args: times(1, integer)},
	}
	for _, kind := range []int{0, 5, 6, -1, 9, 1 << 32, 1<<32 + 1, 1<<32 + 2, least, most} {
		l = append(l, api.Type{Kind: kind}, api.Type{Kind: kind, Name: "t"}, api.Type{Kind: kind, N: 1}, api.Type{Kind: kind, Args: times(2, integer)})
	}
	return append(append(l, sized(1025)...), append(sized(5000), doubled(10), doubled(60))...)
}

// TestNoTypes: what is no type of the solver, on either side, at the top and within, is ErrArg, and nothing changes, though there was something to bind ahead.
func TestNoTypes(t *testing.T) {
	b := newBoth(t, 4)
	b.unify(v(3), con("t", v(4)))
	before := b.told()
	for _, bad := range noTypes(4) {
		for _, in := range []api.Type{
			bad, fun(bad, integer), fun(integer, bad), con("p", v(1), bad), con("p", v(1), fun(v(2), con("list", bad))), con("p", bad, v(1)),
		} {
			if got, err := b.apply(in); err != api.ErrArg || !isZero(got) {
				t.Errorf("Apply(%.100s): %s, %v", text(in), text(got), err)
			}
			for _, fine := range []api.Type{integer, v(1), v(3), in, con("p", integer, v(2)), con("p", integer, fun(v(1), v(1))), fun(v(1), v(2))} {
				if err := b.s.Unify(fine, in); err != api.ErrArg {
					t.Errorf("Unify(%s, %.100s): %v", text(fine), text(in), err)
				}
				if err := b.s.Unify(in, fine); err != api.ErrArg {
					t.Errorf("Unify(%.100s, %s): %v", text(in), text(fine), err)
				}
			}
		}
		if !slices.Equal(b.told(), before) || b.s.Vars() != 4 {
			t.Fatalf("%.100s: something has changed", text(bad))
		}
	}
}

// TestTypes: what is a type of the solver may be unified with itself, and is told as it is.
func TestTypes(t *testing.T) {
	l := append(sized(1024), sized(1023)...)
	for _, s := range []string{"int", "'1", "'4", "int -> int", "'1 -> '2 -> '1", "t", "t int", "t t", "list (list '3)", "x '1 '2 '3 '4 '1 int t"} {
		l = append(l, ty(s))
	}
	// Any text that is not empty may be a Name.
	for _, s := range []string{"int", "a", "'a", " ", "\x00", "\xff", "T", "->", "fun"} {
		l = append(l, con(s), con(s, v(1)))
	}
	for _, x := range l {
		b := newBoth(t, 5)
		if got, err := b.apply(x); err != api.OK || !alike(got, x) {
			t.Errorf("Apply(%.100s): %.100s, %v", text(x), text(got), err)
		}
		if err := b.unify(x, x); err != api.OK {
			t.Errorf("Unify(%.100s): %v", text(x), err)
		}
		if err := b.unify(v(5), x); err != api.OK {
			t.Errorf("'5 and %.100s: %v", text(x), err)
		}
		if got, err := b.apply(v(5)); err != api.OK || !alike(got, x) {
			t.Errorf("'5 is %.100s, not %.100s, %v", text(got), text(x), err)
		}
	}
}

// TestAtTheEdge: types of just MaxTypes nodes, and of one more, on either side.
func TestAtTheEdge(t *testing.T) {
	for i, x := range sized(1024) {
		over := sized(1025)[i]
		for _, c := range []struct {
			a, b api.Type
			want api.Errno
		}{{x, v(1), api.OK}, {v(1), x, api.OK}, {x, x, api.OK}, {x, integer, api.ErrUnify}, {integer, x, api.ErrUnify}, {over, v(1), api.ErrArg}, {v(1), over, api.ErrArg}, {over, over, api.ErrArg}, {over, x, api.ErrArg}, {x, over, api.ErrArg}, {over, integer, api.ErrArg}, {integer, over, api.ErrArg}} {
			b := newBoth(t, 1)
			if got := b.unify(c.a, c.b); got != c.want {
				t.Errorf("%d: %v, not %v", i, got, c.want)
			}
		}
	}
}

func TestVariables(t *testing.T) {
	steps(t, 3, "'1 = int", "'1 : int", "'2 : '2", "int = '2", "'2 : int", "'1 = '2", "'3 : '3")
	steps(t, 3, "'1 = '1", "'1 : '1", "'1 = '1", "'1 -> '2 = '1 -> '2", "'1 -> '2 : '1 -> '2", "'1 = int", "'1 = '1", "'1 : int")
	// Of two variables that which stands on the left is bound.
	steps(t, 3, "'1 = '2", "'1 : '2", "'2 : '2", "'2 = '3", "'1 : '3", "'1 = int", "'1 -> '2 -> '3 : int -> int -> int")
	steps(t, 3, "'2 = '1", "'2 : '1", "'1 : '1", "'3 = '2", "'3 : '1", "'2 = '3", "'1 : '1", "'3 -> '2 : '1 -> '1")
	steps(t, 4, "'1 = '2", "'3 = '4", "'1 = '3", "'1 -> '2 -> '3 : '4 -> '4 -> '4", "'4 = '2", "'2 : '4")
	steps(t, 4, "'1 = '2", "'3 = '4", "'3 = '1", "'1 -> '4 -> '3 : '2 -> '2 -> '2", "'1 = t", "'4 : t")
	// To what is bound what it is bound to is unified.
	steps(t, 3, "'1 = list '2", "'1 = list int", "'2 : int", "'1 : list int", "'3 = '1", "'3 : list int", "'3 = list t ! unify", "'1 = '3")
	steps(t, 3, "'1 = list '2", "'3 = list int", "'1 = '3", "'2 : int", "'3 = '1")
	steps(t, 3, "'1 = int", "'1 = t ! unify", "t = '1 ! unify", "'1 = int", "int = '1", "'2 = '1", "'2 = t ! unify", "'2 : int")
	// Left, right and both, within.
	steps(t, 4, "p '1 int '3 = p int '2 '4", "'1 -> '2 -> '3 : int -> int -> '4")
	steps(t, 4, "'1 -> '1 -> '2 = '3 -> list '4 -> '3", "p '1 '2 '3 : p (list '4) (list '4) (list '4)")
	steps(t, 4, "p '1 '2 '3 = p (q '2 '2) (q '3 '3) (q '4 '4)", "'1 : q (q (q '4 '4) (q '4 '4)) (q (q '4 '4) (q '4 '4))", "'4 = int", "'2 : q (q int int) (q int int)")
}

// TestChains: variables bound to one another many times over, in all ways; what the end is bound to, all are.
func TestChains(t *testing.T) {
	for n := 2; n <= 12; n++ {
		for _, rightFirst := range []bool{false, true} {
			for _, turned := range []bool{false, true} {
				b := newBoth(t, n+1)
				for i := 1; i < n; i++ {
					k := i
					if rightFirst {
						k = n - i
					}
					x, y := v(k), v(k+1)
					if turned {
						x, y = y, x
					}
					if err := b.unify(x, y); err != api.OK {
						t.Error(err)
					}
				}
				end := v(n)
				if turned {
					end = v(1)
				}
				for i := 1; i <= n; i++ {
					if got, _ := b.apply(v(i)); !alike(got, end) {
						t.Errorf("'%d is %s, not %s", i, text(got), text(end))
					}
				}
				if err := b.unify(v(n/2+1), con("t", v(n+1))); err != api.OK {
					t.Error(err)
				}
				for i := 1; i <= n; i++ {
					if got, _ := b.apply(v(i)); !alike(got, con("t", v(n+1))) {
						t.Errorf("'%d is %s", i, text(got))
					}
					if err := b.unify(v(n+1), v(i)); err != api.ErrOccurs {
						t.Error(err)
					}
				}
			}
		}
	}
}

func TestOccurs(t *testing.T) {
	for _, x := range []string{"list '1", "'1 -> int", "int -> '1", "'1 -> '1", "p int int '1", "p '2 (q int (r '1 int)) '1", "p (p (p (p '1)))"} {
		steps(t, 2, "'1 = "+x+" ! occurs", "'1 : '1", x+" = '1 ! occurs", "'1 : '1", "p '1 = p ("+x+") ! occurs", "'1 = int")
		// Through one link, and through many.
		steps(t, 6, "'3 = '1", "'3 = "+x+" ! occurs", x+" = '3 ! occurs", "'4 = "+x, "'1 = '4 ! occurs", "'3 = '4 ! occurs", "'4 = '3 ! occurs", "'1 : '1", "'4 : "+x)
		steps(t, 6, "'3 = "+x, "'4 = t '3", "'5 = '4", "'6 = u '5", "'1 = '6 ! occurs", "'6 = '1 ! occurs", "'1 = int", "'6 = '6")
	}
	steps(t, 3, "'1 = list '2", "'2 = list '3", "'3 = '1 ! occurs", "'3 = list '1 ! occurs", "'3 : '3")
	steps(t, 3, "'1 = '2", "'2 = list '1 ! occurs", "'1 = list '2 ! occurs", "list '2 = '1 ! occurs", "'1 = '2", "'2 = '1")
	steps(t, 3, "p '1 '2 = p (list '2) (list '1) ! occurs", "'1 : list '2", "'2 : '2")
	steps(t, 3, "'1 -> '2 = '2 -> list '1 ! occurs", "'1 : '2")
	// Not within itself, where the variable is the other itself.
	steps(t, 3, "'1 = '2", "'3 = '2", "'1 = '3", "'3 = '1", "'2 = '1", "list '1 = list '3")
}

func TestUnlike(t *testing.T) {
	unlike := [][2]string{
		{"int", "t"}, {"int", "int -> int"}, {"t int int", "int -> int"}, {"t", "u"}, {"t", "t int"}, {"t int", "t int int"}, {"t '2", "u '2"}, {"t (u '2)", "t (v '2)"}, {"list int", "list (list '1)"},
		{"'2 -> int", "'2 -> '5 -> '2"}, {"'5 -> int -> int", "'2 -> int"}, {"p '2 int '2", "p '2 t '2"}, {"p '2 '2 int", "p '2 '2 t"}, {"p int '2 '2", "p t '2 '2"},
	}
	for _, x := range unlike {
		for _, around := range []string{"%s", "list (%s)", "(%s) -> int", "int -> %s", "p '5 (q '5 (r (%s) '5)) '5", "p (%s) '5", "p '5 (%s)"} {
			a, b := fmt.Sprintf(around, x[0]), fmt.Sprintf(around, x[1])
			steps(t, 6, a+" = "+b+" ! unify", b+" = "+a+" ! unify", "'1 = "+a, "'1 = "+b+" ! unify")
			steps(t, 6, "'3 = "+a, "'4 = "+b, "'3 = '4 ! unify", "'6 = '4", "'6 = '3 ! unify", a+" = '6 ! unify")
		}
	}
	// A Name that is alike but for its kind, and texts that are nearly alike.
	b := newBoth(t, 1)
	for _, x := range [][2]api.Type{{con("int"), integer}, {con("t"), con("T")}, {con("t"), con("t ")}, {con("ab", con("c")), con("a", con("bc"))}, {con("\xff"), con("\xfe")}} {
		if err := b.unify(x[0], x[1]); err != api.ErrUnify {
			t.Errorf("%s: %v", text(x[0]), err)
		}
	}
}

// TestOrder: Args are gone through in order, up to the first error, and what was bound ahead of it stays bound.
func TestOrder(t *testing.T) {
	steps(t, 3, "p '1 int '3 = p int t int ! unify", "p '1 '3 : p int '3", "'3 = t")
	steps(t, 3, "'1 -> int -> '3 = t -> t -> int ! unify", "'1 -> '3 : t -> '3")
	steps(t, 3, "p (q '1 (q '2 int)) '3 = p (q int (q t t)) int ! unify", "p '1 '2 '3 : p int t '3")
	steps(t, 3, "p (q int '1) '2 = p (q t int) int ! unify", "p '1 '2 : p '1 '2")
	steps(t, 3, "p '1 '2 int = p '2 (list '1) t ! occurs", "p '1 '2 : p '2 '2", "'2 = int")
	steps(t, 3, "p '1 int '2 = p '2 t (list '1) ! unify", "p '1 '2 : p '2 '2")
	steps(t, 3, "p '1 '1 '2 = p int t int ! unify", "p '1 '2 : p int '2")
	steps(t, 3, "p '1 '2 = p int ! unify", "p '1 = q int ! unify", "'1 -> '2 = p int int ! unify", "p '1 '2 : p '1 '2")
	// At each place of eight, each error, with variables bound ahead and behind.
	for at := range 8 {
		for err, bad := range map[api.Errno][2]api.Type{api.ErrUnify: {integer, con("t")}, api.ErrOccurs: {v(9), con("t", v(9))}, api.ErrMany: {v(9), con("t", v(10))}} {
			for behind, later := range map[api.Errno][2]api.Type{api.ErrUnify: {integer, con("t")}, api.ErrOccurs: {v(9), con("t", v(9))}, api.ErrMany: {v(9), con("t", v(10))}} {
				b := newBoth(t, 10)
				b.unify(v(10), wide(1024))
				x, y := con("p"), con("p")
				for i := range 8 {
					l := [2]api.Type{v(i + 1), con("u")}
					if i == at {
						l = bad
					} else if i > at && i%2 == 0 {
						l = later
					}
					x.Args, y.Args = append(x.Args, l[0]), append(y.Args, l[1])
				}
				if got := b.unify(x, y); got != err {
					t.Errorf("%d: %v, not %v, with %v behind", at, got, err, behind)
				}
				for i := range 8 {
					want := v(i + 1)
					if i < at {
						want = con("u")
					}
					if got, _ := b.apply(v(i + 1)); !alike(got, want) {
						t.Errorf("%d: '%d is %s", at, i+1, text(got))
					}
				}
			}
		}
	}
}

// TestOccursOrMany: where a variable stands in a type that has too many nodes, what is met first is told.
func TestOccursOrMany(t *testing.T) {
	many := func(ahead int, l ...api.Type) api.Type { return con("m", append(times(ahead, integer), l...)...) }
	for _, c := range []struct {
		x    api.Type
		want api.Errno
	}{
		// The variable 2 has 1000 nodes; the variable 1 stands at the node behind those ahead.
		{many(0, v(1), v(2)), api.ErrOccurs}, {many(0, v(2), v(1)), api.ErrOccurs}, {many(0, v(2)), api.OK}, {many(0, v(2), v(2)), api.ErrMany}, {many(0, v(1), v(2), v(2)), api.ErrOccurs}, {many(0, v(2), v(1), v(2)), api.ErrOccurs}, {many(0, v(2), v(2), v(1)), api.ErrMany},
		{many(22, v(2), v(1)), api.ErrOccurs}, {many(23, v(2)), api.OK}, {many(24, v(2)), api.ErrMany}, {many(23, v(2), v(1)), api.ErrMany}, {many(24, v(2), v(1)), api.ErrMany}, {many(24, v(1), v(2)), api.ErrOccurs}, {many(22, v(2), v(1), v(2)), api.ErrOccurs}, {many(23, v(1), v(2)), api.ErrOccurs},
		{many(0, con("q", v(2)), v(1)), api.ErrOccurs}, {many(0, con("q", v(2), con("q", v(2))), v(1)), api.ErrMany}, {many(21, con("q", v(2), v(1))), api.ErrOccurs}, {many(22, con("q", v(2), v(1))), api.ErrMany}, {many(22, con("q", v(1), v(2))), api.ErrOccurs},
		// The variable 4 is one of 512 nodes, of which 1 is the last.
		{many(0, v(4)), api.ErrOccurs}, {many(510, v(4)), api.ErrOccurs}, {many(511, v(4)), api.ErrOccurs}, {many(512, v(4)), api.ErrMany}, {many(11, v(2), v(4)), api.ErrMany}, {many(11, v(4), v(2)), api.ErrOccurs},
		{v(4), api.ErrOccurs},
		{con("m", append(times(1022, integer), v(1))...), api.ErrOccurs}, {con("m", append(times(1021, integer), v(1), integer)...), api.ErrOccurs},
		{con("m", append(times(1021, integer), v(5), v(1))...), api.ErrMany}, {con("m", append(times(1020, integer), v(5), v(1))...), api.ErrOccurs}, {con("m", append(times(1022, integer), v(5))...), api.ErrMany}, {con("m", append(times(1021, integer), v(5))...), api.OK},
		{con("m", append(times(1020, integer), v(6), v(1))...), api.ErrOccurs}, {con("m", append(times(1021, integer), v(6), v(1))...), api.ErrOccurs},
	} {
		for _, turned := range []bool{false, true} {
			for _, through := range []int{1, 3} {
				b := newBoth(t, 7)
				b.unify(v(2), wide(1000))
				b.unify(v(3), v(1))
				b.unify(v(4), con("w", append(times(510, integer), v(1))...))
				b.unify(v(5), con("two", integer)) // two nodes in the place of one
				b.unify(v(6), integer)             // one in the place of one
				before := b.told()
				x, y := v(through), c.x
				if turned {
					x, y = y, x
				}
				if got := b.unify(x, y); got != c.want {
					t.Errorf("%.200s: %v, not %v", text(c.x), got, c.want)
				}
				if c.want != api.OK && !slices.Equal(before, b.told()) {
					t.Errorf("%.200s: something is bound", text(c.x))
				}
			}
		}
	}
}

// TestDeepOccurs: a variable at the end of many links, each one node deeper than the one ahead.
func TestDeepOccurs(t *testing.T) {
	for _, n := range []int{2, 3, 100, 1023, 1024, 1025, 1026, 3000} {
		s := New()
		for range n {
			s.Fresh()
		}
		for i := 1; i < n; i++ {
			if err := s.Unify(v(i), con("list", v(i+1))); err != api.OK {
				t.Fatal(i, err)
			}
		}
		want := api.ErrOccurs
		if n > 1024 {
			want = api.ErrMany
		}
		if err := s.Unify(v(n), v(1)); err != want {
			t.Errorf("%d: %v, not %v", n, err, want)
		}
		if err := s.Unify(v(1), v(n)); err != want {
			t.Errorf("%d, turned: %v, not %v", n, err, want)
		}
		got, err := s.Apply(v(1))
		if n > 1024 {
			if err != api.ErrMany || !isZero(got) {
				t.Errorf("%d: %v", n, err)
			}
			continue
		}
		if err != api.OK || Size(got) != n {
			t.Errorf("%d: %d nodes, %v", n, Size(got), err)
		}
	}
}
