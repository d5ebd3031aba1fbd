package useful

import (
	"fmt"
	"math"
	"slices"
	"testing"

	"athanor/api"
)

// wantArg holds all three calls against ErrArg, of patterns of which one is not as it must be.
func wantArg(t *testing.T, l []api.Decl, bad api.Pat, what ...any) {
	t.Helper()
	refuse := func(rows [][]api.Pat, row []api.Pat) {
		t.Helper()
		if got, err := checkUseful(t, l, rows, row); got || err != api.ErrArg {
			t.Errorf("%v: %s : %s: %v, %v", what, rowTexts(rows), patTexts(row), got, err)
		}
	}
	refuse(nil, []api.Pat{bad})
	refuse([][]api.Pat{{bad}}, []api.Pat{none})
	refuse([][]api.Pat{{none}}, []api.Pat{bad})
	refuse([][]api.Pat{{none}, {none}, {bad}}, []api.Pat{none})
	refuse([][]api.Pat{{bad}, {none}}, []api.Pat{none})
	refuse([][]api.Pat{{pint(1), none, bad}, {none, none, none}}, []api.Pat{pint(2), none, none})
	refuse([][]api.Pat{{none, none, none}}, []api.Pat{none, pint(2), bad})
	for _, p := range [][]api.Pat{{bad}, {none, bad}, {bad, none}, {pint(1), bad, none}, {none, none, none, bad}} {
		if got, err := checkColumn(t, l, p); got || err != api.ErrArg {
			t.Errorf("%v: %s: %v, %v", what, patTexts(p), got, err)
		}
		if got, err := checkIdle(t, l, p); got != nil || err != api.ErrArg {
			t.Errorf("%v: %s: %v, %v", what, patTexts(p), got, err)
		}
	}
}

// TestBadPatterns: each kind of wrong pattern, alone and at each place of others, also of those whose parts nobody asks for.
func TestBadPatterns(t *testing.T) {
	l := types()
	bad := []api.Pat{{}, {Kind: -1}, {Kind: 5}, {Kind: math.MaxInt}, {Kind: math.MinInt}, {Kind: 0, Name: "A"}, {Kind: 6, Args: []api.Pat{none}}, pcon(""), pcon("a"), pcon("Foo"), pcon("Foo", none), pcon("nil"), pcon("Con"), pcon("Conss", none, none), pcon("list"), pcon("int"), pcon("t")}
	for s, n := range map[string]int{"A": 0, "B": 1, "C": 2, "Nil": 0, "Cons": 2, "Unit": 0, "True": 0, "Eight": 8} {
		for args := range 11 {
			if args != n {
				bad = append(bad, pcon(s, nones(args)...))
			}
		}
	}
	for i, p := range bad {
		wantArg(t, l, p, i)
		wantArg(t, l, pcon("B", p), i, "in B")
		wantArg(t, l, pcon("C", none, p), i, "in C")
		wantArg(t, l, pcon("C", p, none), i, "in C")
		wantArg(t, l, pcon("Eight", slices.Concat(nones(7), []api.Pat{p})...), i, "in Eight")
		wantArg(t, l, pcon("C", pcon("C", pint(1), pcon("B", p)), none), i, "in C, C, B")
		for _, outer := range []api.Pat{none, pvar("x"), pint(3)} {
			outer.Args = []api.Pat{none, p}
			wantArg(t, l, outer, i, "in", outer.Kind)
			wantArg(t, l, pcon("B", outer), i, "in B and", outer.Kind)
			outer.Args = []api.Pat{pcon("B", outer)}
			wantArg(t, l, outer, i, "in", outer.Kind, "and B")
		}
	}
	// Of good ones alike there is no fault.
	for _, s := range []string{"A", "B _", "C _ _", "Nil", "Cons _ _", "Unit", "True", "Eight _ _ _ _ _ _ _ _", "C (C 1 (B x)) _"} {
		if _, err := checkColumn(t, l, pats(s+" | _")); err != api.OK {
			t.Errorf("%s: %v", s, err)
		}
	}
}

// TestPartsOfAny: parts of what is no constructor are not asked for.
func TestPartsOfAny(t *testing.T) {
	for _, outer := range []api.Pat{none, pvar("x")} {
		outer.Args = []api.Pat{pcon("A"), pint(1), none}
		if got, err := checkColumn(t, types(), []api.Pat{outer, pcon("A")}); !got || err != api.OK {
			t.Error(got, err)
		}
		if idle, err := checkIdle(t, types(), []api.Pat{outer, pcon("A"), outer}); !slices.Equal(idle, []int{1, 2}) || err != api.OK {
			t.Error(idle, err)
		}
	}
	one := pint(3)
	one.Args = []api.Pat{pcon("A"), none}
	if idle, err := checkIdle(t, types(), []api.Pat{one, pint(3), pint(4), none}); !slices.Equal(idle, []int{1}) || err != api.OK {
		t.Error(idle, err)
	}
}

// TestWidths: a row that is too short, and one that is too long, wherever it stands.
func TestWidths(t *testing.T) {
	l := types()
	for n := range 4 {
		for m := range 5 {
			for behind := range 4 {
				for ahead := range 4 {
					rows := slices.Repeat([][]api.Pat{nones(n)}, ahead)
					rows = append(rows, nones(m))
					rows = append(rows, slices.Repeat([][]api.Pat{nones(n)}, behind)...)
					wantErr := api.OK
					if n != m {
						wantErr = api.ErrArg
					}
					if got, err := checkUseful(t, l, rows, nones(n)); got || err != wantErr {
						t.Errorf("%d of %d, %d ahead, %d behind: %v, %v", m, n, ahead, behind, got, err)
					}
				}
			}
		}
	}
	// They are alike to each other, and unlike the row.
	for _, s := range []string{"_", "_, _, _", "_, _ | _, _, _", "_, _, _ | _, _", "1, 1 | 2 | 3, 3", "A, B"} {
		if got, err := Useful(l, rows(s), row("_, _")); got || err != api.ErrArg {
			t.Errorf("%s: %v, %v", s, got, err)
		}
	}
	if got, err := Useful(l, rows("_"), nil); got || err != api.ErrArg {
		t.Error(got, err)
	}
}

// chain is patterns so deep in one another.
func chain(n int, inner api.Pat) api.Pat {
	for range n - 1 {
		inner = pcon("B", inner)
	}
	return inner
}

// TestDepthLimit: just MaxDepth in one another, and one more.
func TestDepthLimit(t *testing.T) {
	l := types()
	inners := []api.Pat{none, pvar("x"), pint(5), pcon("A")}
	for _, inner := range inners {
		for deep := api.MaxDepth - 2; deep <= api.MaxDepth; deep++ {
			if got, err := checkUseful(t, l, nil, []api.Pat{chain(deep, inner)}); !got || err != api.OK {
				t.Errorf("%d deep: %v, %v", deep, got, err)
			}
			if got, err := checkColumn(t, l, []api.Pat{chain(deep, inner), none}); !got || err != api.OK {
				t.Errorf("%d deep: %v, %v", deep, got, err)
			}
		}
		for _, deep := range []int{api.MaxDepth + 1, api.MaxDepth + 2, 2 * api.MaxDepth} {
			wantArg(t, l, chain(deep, inner), deep, "deep")
			wantArg(t, l, pcon("C", none, pcon("C", chain(deep-2, inner), none)), deep, "deep")
		}
		// Those in what is no constructor, too.
		for _, outer := range inners[:3] {
			outer.Args = []api.Pat{none, chain(api.MaxDepth-1, inner)}
			if _, err := checkColumn(t, l, []api.Pat{outer, none}); err != api.OK {
				t.Error(err)
			}
			outer.Args[1] = chain(api.MaxDepth, inner)
			wantArg(t, l, outer, "in", outer.Kind)
		}
	}
}

// spread is so many patterns, some in others, as a row.
func spread(n int) []api.Pat {
	var out []api.Pat
	for n > 0 {
		p := none
		size := 1
		switch {
		case n >= 17:
			p = pcon("C", chain(8, pcon("A")), chain(8, pint(n)))
			size = 17
		case n >= 4:
			p.Args = []api.Pat{none, {Kind: api.PatVar, Args: nones(1)}}
			size = 4
		case n >= 2:
			p = pcon("B", pvar("x"))
			size = 2
		}
		out = append(out, p)
		n -= size
	}
	return out
}

// TestCountLimit: just MaxExprs patterns and one more, those in others counted.
func TestCountLimit(t *testing.T) {
	t.Parallel()
	l := types()
	most := api.MaxExprs
	want := func(n int, rows [][]api.Pat, row []api.Pat) {
		t.Helper()
		wantErr := api.OK
		if n > most {
			wantErr = api.ErrArg
		}
		if _, err := checkUseful(t, l, rows, row); err != wantErr {
			t.Errorf("%d patterns: %v", n, err)
		}
	}
	for n := most - 2; n < most+3; n++ {
		want(n, nil, nones(n))
		want(n, nil, spread(n))
		if len(allOf(spread(n))) != n {
			t.Error(len(allOf(spread(n))), n)
		}
		want(n, each(nones(n-1)), nones(1))
		want(n, each(slices.Repeat([]api.Pat{pint(4)}, n-1)), nones(1))
		want(n, [][]api.Pat{nones(n / 2)}, append(nones(n/2-1), api.Pat{Kind: api.PatVar, Args: nones(n % 2)}))
		last := nones(1)
		last[0].Args = nones(n - 3)
		want(n, [][]api.Pat{nones(1), nones(1)}, last)
		want(n, [][]api.Pat{nones(1), last}, nones(1))
		wantErr := api.OK
		if n > most {
			wantErr = api.ErrArg
		}
		column := append(spread(n-1), pvar("x"))
		for _, p := range [][]api.Pat{column, slices.Repeat([]api.Pat{pint(4)}, n), append([]api.Pat{none}, spread(n-1)...)} {
			if _, err := Exhaustive(l, p); err != wantErr {
				t.Errorf("%d patterns: exhaustive %v", n, err)
			}
		}
		if all, err := Exhaustive(l, column); all != (n <= most) || err != wantErr {
			t.Errorf("%d patterns: exhaustive %v, %v", n, all, err)
		}
		if idle, err := Idle(l, column); err != wantErr || n > most && idle != nil {
			t.Errorf("%d patterns: idle %v, %v", n, idle, err)
		}
	}
	for _, n := range []int{1 << 12, 1 << 18} {
		want(n, nil, nones(n))
		want(n, each(nones(n-1)), nones(1))
		// Rows without columns have no patterns.
		if got, err := Useful(l, make([][]api.Pat, n), nil); got || err != api.OK {
			t.Errorf("%d rows: %v, %v", n, got, err)
		}
	}
}

// TestArgAheadOfMany: what is not as it must be is told, though there are too many steps.
func TestArgAheadOfMany(t *testing.T) {
	l := append(types(), tuple(16))
	all := flags(16)
	if got, err := Useful(l, all, nones(16)); got || err != api.ErrMany {
		t.Error(got, err)
	}
	for i, bad := range []api.Pat{{}, pcon("Foo"), pcon("B"), pcon("A", none), chain(257, none)} {
		last := append(nones(15), bad)
		if got, err := Useful(l, append(slices.Clone(all), last), nones(16)); got || err != api.ErrArg {
			t.Error(i, got, err)
		}
		if got, err := Useful(l, all, last); got || err != api.ErrArg {
			t.Error(i, got, err)
		}
		column := append(tupled(all), none, bad)
		if got, err := Exhaustive(l, column); got || err != api.ErrArg {
			t.Error(i, got, err)
		}
		if got, err := Idle(l, column); got != nil || err != api.ErrArg {
			t.Error(i, got, err)
		}
	}
	if got, err := Useful(l, append(slices.Clone(all), nones(15)), nones(16)); got || err != api.ErrArg {
		t.Error(got, err)
	}
	many := slices.Concat(all, slices.Repeat([][]api.Pat{nones(16)}, 100))
	if got, err := Useful(l, many, nones(16)); got || err != api.ErrArg {
		t.Error(got, err)
	}
	if got, err := Exhaustive(l, tupled(many)); got || err != api.ErrArg {
		t.Error(got, err)
	}
}

// TestUnchecked: lists of declared types that nobody checked.
func TestUnchecked(t *testing.T) {
	con := func(s string, fields int) api.Con { return api.Con{Name: s, Fields: make([]api.Type, fields)} }
	lists := [][]api.Decl{
		nil, {}, {{}}, {{Name: "t"}, {}}, {{Name: "t"}, {Name: "s", Cons: []api.Con{con("A", 0)}}},
		{{Name: "t", Cons: []api.Con{con("A", 0), con("B", 1)}}, {Name: "s", Cons: []api.Con{con("B", 1), con("C", 2)}}},
		{{Name: "s", Cons: []api.Con{con("B", 1), con("C", 2)}}, {Name: "t", Cons: []api.Con{con("A", 0), con("B", 1)}}},
		{{Name: "s", Cons: []api.Con{con("A", 0), con("B", 1)}}, {Name: "t", Cons: []api.Con{con("C", 2), con("B", 1), con("A", 0)}}},
		{{Name: "t", Cons: []api.Con{con("A", 0), con("A", 0)}}, {Name: "t", Cons: []api.Con{con("B", 1), con("C", 2), con("B", 1)}}},
		{{Name: "t", Cons: []api.Con{con("", 0), con("A", 0)}}, {Name: "t", Cons: []api.Con{con("a b", 1), con("A", 0), con("C", 2), con("B", 1)}}},
		{{Name: "t", Cons: []api.Con{con("A", 0), con("A", 1)}}, {Name: "s", Cons: []api.Con{con("B", 1), con("C", 2), con("B", 2), con("C", 1)}}},
		{{Name: "s", Cons: []api.Con{con("B", 1), con("A", 0)}}, {Name: "t", Cons: []api.Con{con("C", 2), con("B", 3), con("A", 2)}}},
		{{Name: "s", Cons: []api.Con{con("B", 1), con("A", 0)}}, {Name: "t", Cons: []api.Con{con("C", 2), con("B", 0)}}},
		{{Cons: []api.Con{con("C", 2), con("A", 1), con("A", 0), con("B", 0), con("B", 1)}}},
	}
	some := []api.Pat{none, pvar("x"), pint(1), pcon("A"), pcon("A", none), pcon("B", none), pcon("B", pint(2)), pcon("B"), pcon("C", none, none), pcon("C", pcon("A"), none), pcon("C", none, pcon("A")), pcon("C", pcon("B", none), pcon("B", none)), pcon(""), pcon("a b", none)}
	for _, l := range lists {
		for _, a := range some {
			checkColumn(t, l, []api.Pat{a})
			for _, b := range some {
				checkColumn(t, l, []api.Pat{a, b})
				checkUseful(t, l, [][]api.Pat{{a, b}}, []api.Pat{b, none})
				for _, c := range some {
					checkColumn(t, l, []api.Pat{a, b, c})
					checkUseful(t, l, [][]api.Pat{{a, b}, {b, c}, {c, none}}, []api.Pat{none, c})
					checkUseful(t, l, [][]api.Pat{{c, b}, {b, a}, {a, b}}, []api.Pat{none, none})
				}
				for _, v := range []api.Val{vint(1), vcon(0), vcon(1), vcon(2), vcon(0, vint(2)), vcon(1, vint(2)), vcon(2, vint(2), vcon(0)), vcon(1, vcon(0), vcon(1))} {
					checkMeets(t, l, a, v)
				}
			}
		}
	}
	// The first constructor of that name tells how many parts it has, and its type the others.
	l := lists[5]
	for s, want := range map[string]bool{"A | B _": true, "B _ | A": true, "A": false, "B _": false, "C _ _ | B _": true, "B _ | C _ _": false, "C _ _": false, "C _ _ | B 1": false, "C _ _ | A": false} {
		if got, err := checkColumn(t, l, pats(s)); got != want || err != api.OK {
			t.Errorf("%s: %v, %v", s, got, err)
		}
	}
}

// TestNoTypes: without any there are integers and what meets any.
func TestNoTypes(t *testing.T) {
	for _, l := range [][]api.Decl{nil, {}, {{Name: "int"}}} {
		if got, err := checkColumn(t, l, pats("1 | x")); !got || err != api.OK {
			t.Error(got, err)
		}
		if got, err := checkIdle(t, l, pats("1 | 2 | 1 | _ | 7")); !slices.Equal(got, []int{2, 4}) || err != api.OK {
			t.Error(got, err)
		}
		wantArg(t, l, pcon("Nil"))
		wantArg(t, l, pcon("A"))
		if Meets(l, pcon("Nil"), vcon(0)) || !Meets(l, pvar("x"), vcon(0)) || !Meets(l, pint(0), vint(0)) {
			t.Error("meets")
		}
	}
}

// TestIntegers: any numbers will do, and are told apart.
func TestIntegers(t *testing.T) {
	ns := []int{0, 1, -1, 1 << 29, 1<<30 - 1, 1 << 30, -1 << 30, -1<<30 - 1, 1 << 31, 1 << 32, 1<<32 + 1, math.MaxInt, math.MinInt}
	for _, a := range ns {
		for _, b := range ns {
			if got, err := checkUseful(t, nil, [][]api.Pat{{pint(a)}}, []api.Pat{pint(b)}); got != (a != b) || err != api.OK {
				t.Errorf("%d, %d: %v, %v", a, b, got, err)
			}
			if got := checkMeets(t, nil, pint(a), vint(b)); got != (a == b) {
				t.Errorf("%d, %d: %v", a, b, got)
			}
		}
	}
}

// TestNames: constructors are told apart by the whole of their names, and PatVars are not told apart.
func TestNames(t *testing.T) {
	var l []api.Decl
	names := []string{"A", "a", "AA", "Aa", "", " ", "A\x00", "\xff", "Ä"}
	for _, s := range names {
		l = append(l, api.Decl{Name: "t", Cons: []api.Con{{Name: s}, {Name: s + "'"}}})
	}
	for _, a := range names {
		for _, b := range names {
			if got, err := checkUseful(t, l, [][]api.Pat{{pcon(a)}}, []api.Pat{pcon(b)}); got != (a != b) || err != api.OK {
				t.Errorf("%q, %q: %v, %v", a, b, got, err)
			}
			if got, err := checkColumn(t, l, []api.Pat{pcon(a), pcon(b + "'")}); got != (a == b) || err != api.OK {
				t.Errorf("%q, %q: %v, %v", a, b, got, err)
			}
			if got, err := checkUseful(t, l, [][]api.Pat{{pvar(a)}}, []api.Pat{pvar(b)}); got || err != api.OK {
				t.Errorf("%q, %q: %v, %v", a, b, got, err)
			}
		}
		p := pint(3)
		p.Name = a
		if got, err := checkUseful(t, l, [][]api.Pat{{pint(3)}}, []api.Pat{p}); got || err != api.OK {
			t.Error(fmt.Sprint(a), got, err)
		}
	}
}
