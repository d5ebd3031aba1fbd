package typ

import (
	"slices"
	"testing"

	"athanor/api"
)

// solver is one with so many variables.
func solver(vars int) *Solver {
	s := New()
	for range vars {
		s.Fresh()
	}
	return s
}

func (s *Solver) must(t *testing.T, a, b api.Type, want api.Errno) {
	t.Helper()
	if got := s.Unify(a, b); got != want {
		t.Fatalf("%.100s, %.100s: %v, not %v", text(a), text(b), got, want)
	}
}

func (s *Solver) is(t *testing.T, n int, want api.Type) {
	t.Helper()
	if got, err := s.Apply(v(n)); err != api.OK || !alike(got, want) {
		t.Errorf("'%d is %.100s, %v", n, text(got), err)
	}
}

// TestWork: just MaxWork pairs may be looked at, whatever they are, and no more.
func TestWork(t *testing.T) {
	fine := [2]api.Type{integer, integer}
	for _, c := range []struct {
		ahead int // pairs, the first of them the types themselves
		l     [][2]api.Type
		want  api.Errno
		bound bool // is 9 bound?
	}{
		{65536, nil, api.OK, false}, {65535, [][2]api.Type{fine}, api.OK, false}, {65536, [][2]api.Type{fine}, api.ErrMany, false}, {65534, [][2]api.Type{fine, fine}, api.OK, false}, {65534, [][2]api.Type{fine, fine, fine}, api.ErrMany, false},
		// What is one too much is not looked at, whatever it is; what is just ahead of it is.
		{65535, [][2]api.Type{{v(9), integer}}, api.OK, true}, {65536, [][2]api.Type{{v(9), integer}}, api.ErrMany, false}, {65535, [][2]api.Type{{integer, v(9)}}, api.OK, true}, {65536, [][2]api.Type{{integer, v(9)}}, api.ErrMany, false},
		{65535, [][2]api.Type{{integer, con("t")}}, api.ErrUnify, false}, {65536, [][2]api.Type{{integer, con("t")}}, api.ErrMany, false}, {65535, [][2]api.Type{{v(9), con("t", v(9))}}, api.ErrOccurs, false}, {65536, [][2]api.Type{{v(9), con("t", v(9))}}, api.ErrMany, false},
		{65535, [][2]api.Type{{v(8), v(8)}}, api.OK, false}, {65536, [][2]api.Type{{v(8), v(8)}}, api.ErrMany, false},
		{65535, [][2]api.Type{{v(9), integer}, {integer, con("t")}}, api.ErrMany, true}, {65535, [][2]api.Type{{integer, con("t")}, {v(9), integer}}, api.ErrUnify, false},
		{65534, [][2]api.Type{{con("t", v(9)), con("t", integer)}}, api.OK, true}, {65535, [][2]api.Type{{con("t", v(9)), con("t", integer)}}, api.ErrMany, false},
		// A variable that is bound is no pair of its own: 4 and 5 are of one node, through links.
		{65535, [][2]api.Type{{v(4), v(5)}}, api.OK, false}, {65536, [][2]api.Type{{v(4), v(5)}}, api.ErrMany, false}, {65534, [][2]api.Type{{v(4), integer}, {v(9), v(5)}}, api.OK, true},
		// The same variable twice is one pair, if it is not bound; if it is, its nodes are as many: 6 has three.
		{65533, [][2]api.Type{{v(6), v(6)}}, api.OK, false}, {65534, [][2]api.Type{{v(6), v(6)}}, api.ErrMany, false}, {65532, [][2]api.Type{{v(6), v(6)}, {v(9), integer}}, api.OK, true}, {65533, [][2]api.Type{{v(6), v(6)}, {v(9), integer}}, api.ErrMany, false},
	} {
		for _, turned := range []bool{false, true} {
			s := solver(9)
			s.must(t, v(1), wide(1000), api.OK)
			s.must(t, v(2), wide(1000), api.OK)
			s.must(t, v(3), v(5), api.OK)
			s.must(t, v(4), v(3), api.OK)
			s.must(t, v(5), integer, api.OK)
			s.must(t, v(6), ty("t '8 '8"), api.OK)
			// 65 times 1000 pairs, and the others one by one.
			ones := c.ahead - 65001
			l := [2]api.Type{con("p", append(times(65, v(1)), times(ones, integer)...)...), con("p", append(times(65, v(2)), times(ones, integer)...)...)}
			for _, x := range c.l {
				l[0].Args, l[1].Args = append(l[0].Args, x[0]), append(l[1].Args, x[1])
			}
			if turned {
				l[0], l[1] = l[1], l[0]
			}
			s.must(t, l[0], l[1], c.want)
			want := v(9)
			if c.bound {
				want = integer
			}
			s.is(t, 9, want)
			s.is(t, 7, v(7))
			// Each call counts anew.
			s.must(t, v(7), integer, api.OK)
			s.must(t, v(1), v(2), api.OK)
		}
	}
}

// TestWorkBinds: what is bound ahead of the pair that is one too much stays bound.
func TestWorkBinds(t *testing.T) {
	s := solver(300)
	s.must(t, v(1), wide(1024), api.OK)
	s.must(t, v(2), wide(1024), api.OK)
	a, b := con("p", v(3), v(4)), con("p", con("list", v(4)), con("t"))
	a.Args, b.Args = append(a.Args, times(64, v(1))...), append(b.Args, times(64, v(2))...)
	a.Args, b.Args = append(a.Args, v(5)), append(b.Args, integer)
	s.must(t, a, b, api.ErrMany)
	s.is(t, 3, ty("list t"))
	s.is(t, 4, ty("t"))
	s.is(t, 5, v(5))
	s.must(t, v(3), ty("list int"), api.ErrUnify)
}

// TestWorkWithin: just MaxWork pairs, each within the one ahead, and one more.
func TestWorkWithin(t *testing.T) {
	for _, n := range []int{65535, 65536} {
		s := solver(2 * n)
		for _, from := range []int{0, n} {
			for i := 1; i < n; i++ {
				s.must(t, v(from+i), con("list", v(from+i+1)), api.OK)
			}
			s.must(t, v(from+n), con("list", integer), api.OK)
		}
		want := api.OK
		if n == 65536 {
			want = api.ErrMany
		}
		s.must(t, v(1), v(n+1), want)
		s.must(t, v(n+1), v(1), want)
		s.must(t, v(2), v(n+2), api.OK)
		if got, err := s.Apply(v(1)); err != api.ErrMany || !isZero(got) {
			t.Error(err)
		}
		// From the node n - 1022 on there are 1024.
		got, err := s.Apply(v(n - 1022))
		if err != api.OK || Size(got) != 1024 {
			t.Errorf("%d nodes, %v", Size(got), err)
		}
		if got, err := s.Apply(v(n - 1023)); err != api.ErrMany || !isZero(got) {
			t.Errorf("%s, %v", text(got), err)
		}
	}
}

// TestLongChain: very many variables bound to one another, each of them asked for at very many places.
func TestLongChain(t *testing.T) {
	const n = 50000
	for _, rightFirst := range []bool{false, true} {
		s := solver(n + 1)
		for i := 1; i < n; i++ {
			k := i
			if rightFirst {
				k = n - i
			}
			s.must(t, v(k), v(k+1), api.OK)
		}
		s.is(t, 1, v(n))
		s.must(t, con("p", times(1000, v(1))...), con("p", times(1000, v(n))...), api.OK)
		s.must(t, con("p", v(1), v(n)), con("p", con("p", v(n+1)), con("p", integer)), api.OK)
		for _, i := range []int{1, 2, n / 2, n - 1, n} {
			s.is(t, i, con("p", integer))
		}
		s.is(t, n+1, integer)
	}
}

// TestTowers: types that are written out far greater than they stand.
func TestTowers(t *testing.T) {
	const k = 60
	s := solver(2*k + 3)
	for i := 1; i < k; i++ {
		s.must(t, v(i), fun(v(i+1), v(i+1)), api.OK)
		s.must(t, v(k+i), fun(v(k+i+1), v(k+i+1)), api.OK)
	}
	for i := 1; i < k; i++ {
		got, err := s.Apply(v(i))
		if many := k-i > 9; many != (err == api.ErrMany) || many != isZero(got) || !many && Size(got) != 2<<(k-i)-1 {
			t.Errorf("%d: %d nodes, %v", i, Size(got), err)
		}
	}
	s.must(t, v(2*k+1), v(k-9), api.OK)
	s.must(t, v(2*k+2), v(k-10), api.ErrMany)
	s.must(t, v(2*k+2), v(1), api.ErrMany)
	s.must(t, v(1), v(2*k+2), api.ErrMany)
	s.must(t, v(k), v(1), api.ErrOccurs)
	s.must(t, v(k), v(k-9), api.ErrOccurs)
	s.must(t, con("p", v(2*k+2), v(k)), con("p", integer, fun(v(k+1), v(1))), api.ErrMany)
	s.is(t, 2*k+2, integer)
	// The pair that is met first at the end of the towers binds that; then there are too many pairs.
	s.must(t, v(1), v(k+1), api.ErrMany)
	s.is(t, k, v(2*k))
	s.must(t, v(k-14), v(2*k-14), api.OK)
	s.must(t, v(k-15), v(2*k-15), api.OK)
	s.must(t, v(k-16), v(2*k-16), api.ErrMany)
	// Bound to what has two nodes more, both have them.
	s.must(t, v(2*k), fun(v(2*k+3), v(2*k+3)), api.OK)
	if got, err := s.Apply(v(k - 8)); err != api.OK || Size(got) != 1023 {
		t.Errorf("%d nodes, %v", Size(got), err)
	}
	if _, err := s.Apply(v(k - 9)); err != api.ErrMany {
		t.Error(err)
	}
}

// TestApplyEdge: what has, written out, just MaxTypes nodes, and one more, wherever these come from.
func TestApplyEdge(t *testing.T) {
	s := solver(6)
	s.must(t, v(1), wide(1000), api.OK)
	s.must(t, v(2), deep(500), api.OK)
	s.must(t, v(3), fun(v(2), v(2)), api.OK) // 1001
	s.must(t, v(4), v(1), api.OK)
	s.must(t, v(5), wide(1024), api.OK)
	for _, c := range []struct {
		t api.Type
		n int // how many nodes it has, written out
	}{
		{v(1), 1000}, {v(4), 1000}, {v(5), 1024}, {v(6), 1}, {v(3), 1001}, {con("t", v(5)), 1025}, {fun(v(6), v(5)), 1026}, {fun(v(2), v(3)), 1502}, {fun(v(2), v(2)), 1001},
		{con("t", append(times(23, integer), v(1))...), 1024}, {con("t", append(times(24, integer), v(1))...), 1025}, {con("t", append([]api.Type{v(1)}, times(23, integer)...)...), 1024}, {con("t", append([]api.Type{v(1)}, times(24, integer)...)...), 1025},
		{con("t", append(times(23, v(6)), v(4))...), 1024}, {con("t", append(times(24, v(6)), v(4))...), 1025}, {con("t", append([]api.Type{v(3)}, times(22, integer)...)...), 1024}, {con("t", append([]api.Type{v(3)}, times(23, integer)...)...), 1025},
		{con("t", v(2), v(2), deep(23)), 1024}, {con("t", v(2), v(2), deep(24)), 1025}, {con("t", v(2), deep(23), v(2)), 1024}, {con("t", deep(24), v(2), v(2)), 1025}, {fun(v(1), wide(23)), 1024}, {fun(wide(24), v(1)), 1025}, {con("t", v(1), v(1)), 2001}, {con("t", times(1023, v(5))...), 1 + 1023*1024}, {con("t", times(1023, v(6))...), 1024},
	} {
		got, err := s.Apply(c.t)
		if c.n > 1024 {
			if err != api.ErrMany || !isZero(got) {
				t.Errorf("%.100s: %.100s, %v", text(c.t), text(got), err)
			}
			continue
		}
		if err != api.OK || len(each(got)) != c.n {
			t.Errorf("%.100s: %d nodes, not %d, %v", text(c.t), len(each(got)), c.n, err)
		}
	}
}

func TestSize(t *testing.T) {
	for s, want := range map[string]int{"int": 1, "'1": 1, "'a": 1, "t": 1, "int -> int": 3, "t int": 2, "t int (u int '1 'a) '2": 7, "'1 -> '2 -> '3": 5} {
		if got := Size(ty(s)); got != want {
			t.Errorf("%s: %d, not %d", s, got, want)
		}
	}
	// Of any kind, whatever it has.
	for _, kind := range []int{-1, 0, 1, 2, 3, 4, 5, 1 << 40} {
		for n := range 5 {
			if got := Size(api.Type{Kind: kind, Name: "x", N: 3, Args: times(n, api.Type{Kind: kind, Args: times(n, integer)})}); got != 1+n+n*n {
				t.Errorf("%d: %d", kind, got)
			}
		}
	}
	for _, n := range []int{11, 20, 100, 1000, 1022, 1023, 1024, 1025, 1026, 1027, 2048, 2050, 5000, 1 << 16} {
		for i, x := range sized(n) {
			if got := Size(x); got != min(n, 1025) {
				t.Errorf("%d, %d nodes: %d", i, n, got)
			}
		}
	}
	for n := range 100 {
		if got := Size(doubled(n)); got != min(2<<min(n, 20)-1, 1025) {
			t.Errorf("2^%d: %d", n+1, got)
		}
	}
	large := con("t", make([]api.Type, 1<<20)...)
	if got := Size(large); got != 1025 {
		t.Error(got)
	}
	if got := Size(con("t", large, large)); got != 1025 {
		t.Error(got)
	}
}

// TestLargeTypes: types that are very deep, very wide, or of very many nodes in little memory, are refused at once.
func TestLargeTypes(t *testing.T) {
	for i, x := range []api.Type{deep(1 << 16), wide(1 << 20), doubled(60), con("list", deep(1<<16-1)), fun(doubled(1000), doubled(1000))} {
		s := solver(1)
		s.must(t, x, v(1), api.ErrArg)
		s.must(t, v(1), x, api.ErrArg)
		if got, err := s.Apply(x); err != api.ErrArg || !isZero(got) {
			t.Error(i, err)
		}
		if got, err := Canon(x); err != api.ErrMany || !isZero(got) {
			t.Error(i, err)
		}
		if Size(x) != 1025 || First([]api.Decl{{Name: "d"}, {Name: "w"}, {Name: "list"}}, x) {
			t.Error(i)
		}
	}
	for _, n := range []int{1 << 10, 1 << 16} {
		if !Same(deep(n), deep(n)) || Same(deep(n), deep(n+1)) || !Same(wide(n), wide(n)) || Same(wide(n), wide(n+1)) {
			t.Error(n)
		}
		other := wide(n)
		other.Args = slices.Clone(other.Args)
		other.Args[n-2] = con("int")
		if Same(other, wide(n)) || Same(wide(n), other) {
			t.Error(n)
		}
	}
}
