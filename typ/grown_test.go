package typ

import (
	"math/rand"
	"slices"
	"testing"

	"athanor/api"
)

// grower grows types by chance, of variables 1 to vars.
type grower struct {
	r    *rand.Rand
	vars int
}

func (g *grower) typ(depth int) api.Type {
	k := g.r.Intn(12)
	switch {
	case k < 3:
		return v(1 + g.r.Intn(g.vars))
	case k < 4 || depth == 0:
		return []api.Type{integer, con("t"), con("u")}[g.r.Intn(3)]
	case k < 7:
		return fun(g.typ(depth-1), g.typ(depth-1))
	}
	x := con([]string{"list", "p", "p", "q"}[k%4])
	n := 1
	if x.Name != "list" || g.r.Intn(20) == 0 {
		n = g.r.Intn(4)
	}
	for range n {
		x.Args = append(x.Args, g.typ(depth-1))
	}
	return x
}

// holed is a type with variables in the place of some of its nodes.
func (g *grower) holed(t api.Type) api.Type {
	if g.r.Intn(5) == 0 {
		return v(1 + g.r.Intn(g.vars))
	}
	out := api.Type{Kind: t.Kind, Name: t.Name, N: t.N}
	for _, x := range t.Args {
		out.Args = append(out.Args, g.holed(x))
	}
	return out
}

func (g *grower) pair() (a, b api.Type) {
	switch g.r.Intn(8) {
	case 0:
		return g.typ(4), g.typ(4)
	case 1:
		return v(1 + g.r.Intn(g.vars)), g.typ(3)
	case 2:
		return g.typ(3), v(1 + g.r.Intn(g.vars))
	case 3:
		return v(1 + g.r.Intn(g.vars)), v(1 + g.r.Intn(g.vars))
	case 4:
		x := v(1 + g.r.Intn(g.vars))
		return v(1 + g.r.Intn(g.vars)), fun(x, x)
	}
	t := g.typ(4)
	return g.holed(t), g.holed(t)
}

// inEitherOrder unifies two types, and holds that against the same in the other order, in a solver that has been through the same.
func (b *both) inEitherOrder(x, y api.Type) api.Errno {
	b.t.Helper()
	other := b.again()
	got, turned := b.unify(x, y), other.Unify(y, x)
	if got == api.ErrMany || turned == api.ErrMany {
		return got
	}
	if (got == api.OK) != (turned == api.OK) {
		b.t.Fatalf("%s, %s: %v, and %v in the other order", text(x), text(y), got, turned)
	}
	if got != api.OK {
		return got
	}
	all := con("all")
	for n := range b.plain.made {
		all.Args = append(all.Args, v(n+1))
	}
	mine, err := b.s.Apply(all)
	theirs, theirErr := other.Apply(all)
	if err != theirErr || !alike(checkCanon(b.t, mine), checkCanon(b.t, theirs)) {
		b.t.Fatalf("%s, %s: %s, and %s in the other order", text(x), text(y), text(mine), text(theirs))
	}
	return got
}

// checkSame: behind a Unify that is OK both are the same, and Unify again, in either order, binds nothing.
func (b *both) checkSame(x, y api.Type) {
	b.t.Helper()
	mine, err := b.apply(x)
	theirs, theirErr := b.apply(y)
	if err != theirErr || !Same(mine, theirs) || !alike(mine, theirs) {
		b.t.Fatalf("%s, %s: %s and %s, written out", text(x), text(y), text(mine), text(theirs))
	}
	told := b.told()
	for _, l := range [][2]api.Type{{x, y}, {y, x}, {mine, theirs}, {x, theirs}} {
		// What is written out may be more than may be handed in.
		if err != api.OK && l[1].Kind == 0 {
			continue
		}
		if again := b.s.Unify(l[0], l[1]); again != api.OK {
			b.t.Fatalf("%s, %s: %v, once more", text(l[0]), text(l[1]), again)
		}
	}
	if !slices.Equal(told, b.told()) {
		b.t.Fatalf("%s, %s: more is bound, once more", text(x), text(y))
	}
}

func checkGrown(t *testing.T, r *rand.Rand, counts map[api.Errno]int) {
	t.Helper()
	g := &grower{r: r, vars: 1 + r.Intn(8)}
	b := newBoth(t, g.vars+1)
	if r.Intn(4) == 0 {
		// What has this variable twice has too many nodes, written out.
		b.unify(v(1), con("w", append(times(600, integer), v(g.vars+1))...))
	}
	for range 1 + r.Intn(10) {
		x, y := g.pair()
		err := b.inEitherOrder(x, y)
		counts[err]++
		if err == api.OK {
			b.checkSame(x, y)
		}
		if r.Intn(4) == 0 {
			b.fresh(1)
			g.vars++
		}
	}
	checkCanon(t, g.typ(5))
}

func TestGrown(t *testing.T) {
	r := rand.New(rand.NewSource(15))
	counts := map[api.Errno]int{}
	for range 1000 {
		checkGrown(t, r, counts)
	}
	for err, least := range map[api.Errno]int{api.OK: 2000, api.ErrUnify: 500, api.ErrOccurs: 500, api.ErrMany: 20} {
		if counts[err] < least {
			t.Errorf("%v: %d", err, counts[err])
		}
	}
}

// smallTypes is all types of the variables 1 and 2, int and list, of at most that depth.
func smallTypes(depth int) []api.Type {
	l := []api.Type{v(1), v(2), integer}
	if depth == 1 {
		return l
	}
	for _, x := range smallTypes(depth - 1) {
		l = append(l, con("list", x))
		for _, y := range smallTypes(depth - 1) {
			l = append(l, fun(x, y))
		}
	}
	return l
}

// TestSmall: all small types with one another, with nothing bound and with something.
func TestSmall(t *testing.T) {
	l := smallTypes(2)
	for _, x := range l {
		for _, y := range l {
			for _, ahead := range [][2]string{{"int", "int"}, {"'1", "'2"}, {"'2", "'1"}, {"'1", "list '3"}, {"'2", "list '1"}, {"'1", "'3 -> '3"}, {"'3", "'1"}, {"'1", "int"}} {
				b := newBoth(t, 3)
				b.unify(ty(ahead[0]), ty(ahead[1]))
				if b.inEitherOrder(x, y) == api.OK {
					b.checkSame(x, y)
				}
				b.unify(v(3), fun(x, y))
			}
		}
	}
	// Larger ones, where nothing is bound.
	for i, x := range smallTypes(3) {
		for j, y := range smallTypes(3) {
			if (i+3*j)%5 == 0 {
				b := newBoth(t, 2)
				if b.inEitherOrder(x, y) == api.OK {
					b.checkSame(x, y)
				}
			}
		}
	}
}

func FuzzGrown(f *testing.F) {
	for i := range 20 {
		f.Add(int64(i))
	}
	f.Fuzz(func(t *testing.T, seed int64) {
		r := rand.New(rand.NewSource(seed))
		checkGrown(t, r, map[api.Errno]int{})
		growFirst(t, r)
	})
}
