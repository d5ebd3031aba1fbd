package useful

import (
	"fmt"
	"slices"
	"strings"
	"testing"

	"athanor/api"
)

// TestManyConstructors: a type of very many, all of which stand there, or all but one.
func TestManyConstructors(t *testing.T) {
	d := api.Decl{Name: "many"}
	var all []api.Pat
	for i := range api.MaxExprs - 1 {
		d.Cons = append(d.Cons, api.Con{Name: fmt.Sprint("M", i)})
		all = append(all, pcon(fmt.Sprint("M", i)))
	}
	l := append(types(), d)
	if got, err := Exhaustive(l, all); !got || err != api.OK {
		t.Error(got, err)
	}
	for _, i := range []int{0, 1, 1000, len(all) - 1} {
		rest := slices.Delete(slices.Clone(all), i, i+1)
		if got, err := Exhaustive(l, rest); got || err != api.OK {
			t.Error(i, got, err)
		}
		if got, err := Idle(l, append(rest, all[0], none)); len(got) != 1 && i > 0 || err != api.OK {
			t.Error(i, got, err)
		}
	}
	if got, err := Idle(l, append(slices.Clone(all), none)); !slices.Equal(got, []int{len(all)}) || err != api.OK {
		t.Error(got, err)
	}
	// More than there can be patterns.
	l[len(l)-1].Cons = append(d.Cons, make([]api.Con, 1<<20)...)
	if got, err := Exhaustive(l, all); got || err != api.OK {
		t.Error(got, err)
	}
}

// TestManyAlike: a type that has one constructor very many times.
func TestManyAlike(t *testing.T) {
	l := []api.Decl{{Cons: slices.Repeat([]api.Con{{Name: "A"}}, 1<<20)}}
	if got, err := Exhaustive(l, pats("A")); got || err != api.ErrMany {
		t.Error(got, err)
	}
	if got, err := Useful(l, rows("1 | A"), row("A")); got || err != api.OK {
		t.Error(got, err)
	}
	if got, err := Useful(l, rows("1, A | A, A"), row("_, 1")); !got || err != api.OK {
		t.Error(got, err)
	}
	l[0].Cons[1<<20-1].Name = "B"
	if got, err := Exhaustive(l, pats("A")); got || err != api.OK {
		t.Error(got, err)
	}
	for n := range 12 {
		l = []api.Decl{{Cons: slices.Repeat([]api.Con{{Name: "A"}}, api.MaxWork-6+n)}}
		wantErr := api.OK
		if n > 5 {
			wantErr = api.ErrMany
		}
		if got, err := Exhaustive(l, pats("A | x")); got != (n <= 5) || err != wantErr {
			t.Error(n, got, err)
		}
	}
}

// TestManyFields: a constructor of as many fields as there may be patterns, and one with more in a type behind.
func TestManyFields(t *testing.T) {
	wide := func(n int) []api.Decl {
		return append(types(), api.Decl{Cons: []api.Con{{Name: "W1", Fields: make([]api.Type, n)}, {Name: "W2"}}})
	}
	for _, n := range []int{1, 100, 1000} {
		l := wide(n)
		all := []api.Pat{pcon("W2"), pcon("W1", append(nones(n-1), pint(1))...), pcon("W1", nones(n)...)}
		if got, err := checkColumn(t, l, all[:2]); got || err != api.OK {
			t.Error(got, err)
		}
		if n < 1000 {
			if got, err := checkColumn(t, l, all); !got || err != api.OK {
				t.Error(got, err)
			}
		}
	}
	// As the first of its name it has no fields.
	for _, n := range []int{1, 3000, 1 << 22} {
		l := append([]api.Decl{{Cons: []api.Con{{Name: "W1"}}}}, wide(n)...)
		wantErr := api.OK
		if n > api.MaxWork {
			wantErr = api.ErrMany
		}
		if _, err := Exhaustive(l, []api.Pat{pcon("W2"), pcon("W1")}); err != wantErr {
			t.Error(n, err)
		}
		if got, err := Idle(l, []api.Pat{pcon("W1"), pcon("W2"), pcon("W1")}); !slices.Equal(got, []int{2}) || err != api.OK {
			t.Error(n, got, err)
		}
	}
}

// TestManyTypes: constructors of very many types.
func TestManyTypes(t *testing.T) {
	var l []api.Decl
	for i := range 1 << 16 {
		l = append(l, api.Decl{Cons: []api.Con{{Name: fmt.Sprint("M", i)}, {Name: fmt.Sprint("N", i)}}})
	}
	var all []api.Pat
	for i := range 400 {
		all = append(all, pcon(fmt.Sprint("N", i)), pcon(fmt.Sprint("M", 2*i)))
	}
	if got, err := checkColumn(t, l, all); !got || err != api.OK {
		t.Error(got, err)
	}
	last := []api.Pat{pcon("M65535"), pcon("N65535")}
	if got, err := checkColumn(t, l, last); !got || err != api.OK {
		t.Error(got, err)
	}
	if !Meets(l, last[1], vcon(1)) || Meets(l, last[1], vcon(0)) {
		t.Error("meets")
	}
}

// TestVeryDeep: patterns and expressions that are deeper than any program's.
func TestVeryDeep(t *testing.T) {
	for _, n := range []int{1000, 60000} {
		p := chain(n, none)
		for _, l := range [][]api.Decl{types(), nil} {
			if got, err := Exhaustive(l, []api.Pat{none, p}); got || err != api.ErrArg {
				t.Error(got, err)
			}
			if got, err := Useful(l, [][]api.Pat{{p}}, []api.Pat{none}); got || err != api.ErrArg {
				t.Error(got, err)
			}
			if got, err := Idle(l, []api.Pat{p}); got != nil || err != api.ErrArg {
				t.Error(got, err)
			}
		}
		e := api.Expr{Kind: api.ExInt}
		for range n {
			e = api.Expr{Kind: api.ExCase, Args: []api.Expr{e, e}, Pats: []api.Pat{none}}
			e.Args[1] = api.Expr{Kind: api.ExInt}
		}
		if got := Check(api.Program{Main: e}); got != (api.Fault{Code: api.ErrArg}) {
			t.Error(got)
		}
		e = api.Expr{Kind: api.ExCase, Args: []api.Expr{{Kind: api.ExInt}, {Kind: api.ExInt}}, Pats: []api.Pat{p}}
		if got := Check(api.Program{Main: e}); got != (api.Fault{Code: api.ErrArg}) {
			t.Error(got)
		}
	}
	deepest := mustRead(strings.Repeat("case 1 of _ -> ", 255) + "1" + strings.Repeat(" end", 255))
	if got := checkCheck(t, deepest); got != (api.Fault{}) {
		t.Error(got)
	}
	deepest = mustRead(strings.Repeat("case 1 of _ -> ", 254) + "case 1 of 1 -> 2 end" + strings.Repeat(" end", 254))
	if got := checkCheck(t, deepest); got != (api.Fault{Code: api.ErrMatch, At: 254 * len("case 1 of _ -> ")}) {
		t.Error(got)
	}
}

// TestLargePrograms: a case with as many branches as a program may have, and as many cases.
func TestLargePrograms(t *testing.T) {
	t.Parallel()
	for _, x := range []struct {
		last string
		want api.Errno
	}{{"_ -> 1", api.OK}, {"7 -> 1", api.ErrMatch}} {
		var l []string
		for i := range 500 {
			l = append(l, fmt.Sprint(i, " -> 1"))
		}
		p := mustRead("case 1 of " + strings.Join(append(l, x.last), " | ") + " end")
		if got := checkCheck(t, p); got.Code != x.want || got.At != 0 {
			t.Errorf("%s: %v", x.last, got)
		}
		l = nil
		for range 150 {
			l = append(l, "(case 1 of 1 -> 2 | x -> 3 end)")
		}
		p = mustRead(strings.Join(l, " + ") + " + (case 1 of " + x.last + " end)")
		if got := checkCheck(t, p); got.Code != x.want {
			t.Errorf("%s: %v", x.last, got)
		}
	}
}
