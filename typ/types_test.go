package typ

import (
	"fmt"
	"slices"
	"strings"
	"testing"

	"athanor/api"
)

// oddTypes is nodes of all kinds, as they must be and as they need not be.
func oddTypes() []api.Type {
	var l []api.Type
	for _, kind := range []int{-1 << 63, -1, 0, 1, 2, 3, 4, 5, 1<<32 + 2, 1<<63 - 1} {
		for _, name := range []string{"", "a", "int", "\xff"} {
			for _, n := range []int{-1 << 63, -1, 0, 1, 2, 1 << 32, 1<<63 - 1} {
				l = append(l, api.Type{Kind: kind, Name: name, N: n})
			}
		}
	}
	return l
}

// TestSameField: types that are alike but for one field, at any place of them.
func TestSameField(t *testing.T) {
	whole := func() api.Type {
		return api.Type{Kind: 3, Args: []api.Type{ty("p '1 (list 'a) (int -> q int '2)"), {Kind: 7, Name: "x", N: -3, Args: []api.Type{{}, {Kind: 2, Name: "b", N: 4}, con("w", wide(5), deep(5))}}}}
	}
	count := len(each(whole()))
	for i := range count {
		for k, change := range []func(x *api.Type){
			func(x *api.Type) { x.Kind++ }, func(x *api.Type) { x.Kind += 1 << 32 }, func(x *api.Type) { x.Kind = -x.Kind - 1 },
			func(x *api.Type) { x.Name += "z" }, func(x *api.Type) { x.Name = "\x00" + x.Name },
			func(x *api.Type) { x.N++ }, func(x *api.Type) { x.N += 1 << 32 }, func(x *api.Type) { x.N ^= -1 << 63 },
			func(x *api.Type) { x.Args = append(x.Args, api.Type{}) }, func(x *api.Type) { x.Args = append([]api.Type{{}}, x.Args...) },
			func(x *api.Type) {
				if len(x.Args) == 0 {
					x.Kind++
				}
				x.Args = nil
			},
		} {
			a, b := whole(), whole()
			change(nodeAt(&b, i))
			if Same(a, b) || Same(b, a) {
				t.Errorf("node %d, change %d", i, k)
			}
			change(nodeAt(&a, i))
			if !Same(a, b) {
				t.Errorf("node %d, change %d: not the same though both have it", i, k)
			}
		}
		// No list and an empty one are one.
		a, b := whole(), whole()
		if x := nodeAt(&a, i); len(x.Args) == 0 {
			x.Args, nodeAt(&b, i).Args = nil, make([]api.Type, 0, 3)
		}
		if !Same(a, b) || !Same(b, a) {
			t.Errorf("node %d: an empty list", i)
		}
	}
	l := oddTypes()
	for i, x := range l {
		for j, y := range l {
			if got := Same(x, y); got != (i == j) {
				t.Errorf("%s, %s: %v", text(x), text(y), got)
			}
			if i%7 == j%11 && Same(con("t", x, y), con("t", y, x)) != (i == j) {
				t.Errorf("%s, %s", text(x), text(y))
			}
		}
	}
	// Alike in all nodes, but not in how they stand.
	for _, x := range [][2]string{{"p (q int) int", "p (q int int)"}, {"p (q) int", "p (q int)"}, {"p (p p) p", "p (p p p)"}, {"'1 -> '2", "'2 -> '1"}, {"(int -> int) -> int", "int -> int -> int"}, {"'1", "'a"}} {
		if Same(ty(x[0]), ty(x[1])) || Same(ty(x[1]), ty(x[0])) || !Same(ty(x[0]), ty(x[0])) {
			t.Error(x)
		}
	}
}

// nodeAt is the node i of a type, a node ahead of its Args.
func nodeAt(t *api.Type, i int) *api.Type {
	l := []*api.Type{t}
	for ; i > 0; i-- {
		x := l[len(l)-1]
		l = l[:len(l)-1]
		for k := len(x.Args) - 1; k >= 0; k-- {
			l = append(l, &x.Args[k])
		}
	}
	return l[len(l)-1]
}

func checkCanon(t *testing.T, x api.Type) api.Type {
	t.Helper()
	got, err := Canon(x)
	want, wantErr := plainCanon(x)
	if err != wantErr || !alike(got, want) {
		t.Fatalf("Canon(%.500s) is %.500s, %v, not %.500s, %v", text(x), text(got), err, text(want), wantErr)
	}
	// What has its names has just these.
	if again, err := Canon(got); err != api.OK || !alike(again, got) {
		t.Fatalf("%.500s, once more: %.500s, %v", text(got), text(again), err)
	}
	return got
}

func TestCanon(t *testing.T) {
	for s, want := range map[string]string{
		"int": "int", "t": "t", "int -> list int": "int -> list int", "'1": "'a", "'5": "'a", "'z": "'a", "'a": "'a",
		"'7 -> '3 -> '7": "'a -> 'b -> 'a", "'b -> 'a": "'a -> 'b", "'b -> 'a -> 'b": "'a -> 'b -> 'a", "p '3 '2 '1 '2 '3": "p 'a 'b 'c 'b 'a",
		"('2 -> '1) -> '1 -> '2": "('a -> 'b) -> 'b -> 'a", "p (q (r '9) '8) '9 (q '7)": "p (q (r 'a) 'b) 'a (q 'c)", "p int (q '4) '4 (int -> '5)": "p int (q 'a) 'a (int -> 'b)",
		"'a -> '1": "'a -> 'b", "'1 -> 'a": "'a -> 'b", "p 'b '2 'b '2 'a '1": "p 'a 'b 'a 'b 'c 'd", "p 'x1 'x '1 'x": "p 'a 'b 'c 'b", "p 'b1 'b '1": "p 'a 'b 'c",
	} {
		if got := checkCanon(t, ty(s)); !alike(got, ty(want)) {
			t.Errorf("%s: %s, not %s", s, text(got), want)
		}
	}
}

// TestCanonSigns: variables are told apart by N, or by Name, and one by N is none by Name, whatever they are.
func TestCanonSigns(t *testing.T) {
	one := func(n int) api.Type { return api.Type{Kind: api.TyVar, Name: "1", N: n} }
	for i, x := range []struct{ given, want []api.Type }{
		{[]api.Type{v(1), named("1"), v(1), named("1")}, []api.Type{named("a"), named("b"), named("a"), named("b")}},
		{[]api.Type{named("1"), v(1), one(1), one(0), one(2), one(-1 << 63), v(2)}, []api.Type{named("a"), named("b"), named("a"), named("a"), named("a"), named("a"), named("c")}},
		{[]api.Type{v(0), v(-1), v(0), v(1<<63 - 1), v(-1 << 63), v(1 << 32), v(-1), one(0)}, []api.Type{named("a"), named("b"), named("a"), named("c"), named("d"), named("e"), named("b"), named("f")}},
		{[]api.Type{named("a"), named("A"), named("\x00"), named("a\x00"), named("a"), named("")}, []api.Type{named("a"), named("b"), named("c"), named("d"), named("a"), named("e")}},
		{[]api.Type{named("b"), con("b"), con("a", named("b")), {Kind: 3, Name: "b", N: 2}, {Kind: 9, Name: "b", N: 7, Args: []api.Type{named("b"), v(2)}}, {}}, []api.Type{named("a"), con("b"), con("a", named("a")), {Kind: 3, Name: "b", N: 2}, {Kind: 9, Name: "b", N: 7, Args: []api.Type{named("a"), named("b")}}, {}}},
		// A variable has a Name, and nothing else.
		{[]api.Type{{Kind: 2, N: 1, Args: []api.Type{v(2)}}, v(3), v(1)}, []api.Type{named("a"), named("b"), named("a")}},
	} {
		if got := checkCanon(t, con("p", x.given...)); !alike(got, con("p", x.want...)) {
			t.Errorf("%d: %s", i, text(got))
		}
	}
	// Any two nodes.
	l := oddTypes()
	for _, x := range l {
		for _, y := range l {
			got := checkCanon(t, con("p", x, y, x))
			if x.Kind == api.TyVar && y.Kind == api.TyVar {
				alone := x.Name == y.Name && (x.Name != "" || x.N == y.N)
				want := con("p", named("a"), named("b"), named("a"))
				if alone {
					want.Args[1].Name = "a"
				}
				if !alike(got, want) {
					t.Errorf("%s, %s: %s", text(x), text(y), text(got))
				}
			}
		}
	}
}

// TestCanonNames: the names of more than 26, and of as many variables as may be.
func TestCanonNames(t *testing.T) {
	for _, n := range []int{1, 25, 26, 27, 28, 51, 52, 53, 54, 78, 79, 260, 261, 286, 287, 1023} {
		for _, makes := range []func(i int) api.Type{v, func(i int) api.Type { return named(fmt.Sprint("x", i)) }, func(i int) api.Type { return v(-i) }, func(i int) api.Type {
			if i%2 == 0 {
				return v(i / 2)
			}
			return named(fmt.Sprint(i / 2))
		}} {
			x := con("p")
			for i := range n {
				x.Args = append(x.Args, makes(n-i))
			}
			got := checkCanon(t, x)
			for i, want := range plainNames(n) {
				if !alike(got.Args[i], named(want)) {
					t.Errorf("%d of %d is %s, not %s", i, n, text(got.Args[i]), want)
				}
			}
		}
	}
	// As they are written out.
	want := "a b c d e f g h i j k l m n o p q r s t u v w x y z a1 b1 c1 d1 e1 f1 g1 h1 i1 j1 k1 l1 m1 n1 o1 p1 q1 r1 s1 t1 u1 v1 w1 x1 y1 z1 a2 b2"
	x := con("p")
	for i := range 54 {
		x.Args = append(x.Args, v(100-i), v(100-i/2))
	}
	var names []string
	for i, y := range checkCanon(t, x).Args {
		if i%2 == 0 {
			names = append(names, y.Name)
		}
	}
	if got := strings.Join(names, " "); got != want {
		t.Error(got)
	}
	if plain := strings.Join(plainNames(54), " "); plain != want {
		t.Error(plain)
	}
}

// TestCanonEdge: types of just MaxTypes nodes, and of one more.
func TestCanonEdge(t *testing.T) {
	for i := range sized(1024) {
		for _, y := range []api.Type{v(3), named("z"), integer} {
			x := sized(1024)[i]
			*nodeAt(&x, 1023) = y
			checkCanon(t, x)
			over := sized(1025)[i]
			*nodeAt(&over, 1024) = y
			if got, err := Canon(over); err != api.ErrMany || !isZero(got) {
				t.Errorf("%d: %.100s, %v", i, text(got), err)
			}
		}
	}
	// The Args of a variable are nodes, too.
	for n, want := range map[int]api.Errno{1023: api.OK, 1024: api.ErrMany} {
		if _, err := Canon(api.Type{Kind: api.TyVar, N: 1, Args: times(n, integer)}); err != want {
			t.Errorf("%d: %v", n, err)
		}
	}
}

// TestCanonRenamed: other numbers, and names in the place of numbers, change nothing.
func TestCanonRenamed(t *testing.T) {
	for _, s := range []string{"'1 -> '2 -> '1", "p '3 (q '1 '2) ('3 -> '2) '4 '1", "p '4 '4 '4", "list int"} {
		x := ty(s)
		want := checkCanon(t, x)
		for _, rename := range []func(y *api.Type){func(y *api.Type) { y.N += 10 }, func(y *api.Type) { y.N = 5 - y.N }, func(y *api.Type) { y.Name = fmt.Sprint("n", 9-y.N) }, func(y *api.Type) { y.Name = fmt.Sprint(y.N); y.N = len(y.Args) - 7 }, func(y *api.Type) {
			if y.N > 2 {
				y.Name = "b"[:1] + fmt.Sprint(y.N)
			}
		}} {
			y := copyOf(x)
			for i := range len(each(y)) {
				if z := nodeAt(&y, i); z.Kind == api.TyVar {
					rename(z)
				}
			}
			if got := checkCanon(t, y); !alike(got, want) {
				t.Errorf("%s: %s", text(y), text(got))
			}
		}
	}
	if !slices.Equal(plainNames(3), []string{"a", "b", "c"}) {
		t.Error(plainNames(3))
	}
}
