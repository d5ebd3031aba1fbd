package useful

import (
	"fmt"
	"slices"
	"testing"

	"athanor/api"
)

// flags is two rows for each of so many columns, True and False there and any elsewhere: all of them are asked of each way through the columns, though the first two rows meet all.
func flags(n int) [][]api.Pat {
	var out [][]api.Pat
	for i := range n {
		for _, s := range []string{"True", "False"} {
			r := nones(n)
			r[i] = pcon(s)
			out = append(out, r)
		}
	}
	return out
}

// ahead is rows with columns ahead of theirs.
func ahead(cols []api.Pat, rows ...[]api.Pat) [][]api.Pat {
	var out [][]api.Pat
	for _, r := range rows {
		out = append(out, slices.Concat(cols, r))
	}
	return out
}

// wantSteps holds what Useful tells against the number of steps, and that, if it is small, against the second reading's.
func wantSteps(t *testing.T, l []api.Decl, rows [][]api.Pat, row []api.Pat, steps int, want bool) {
	t.Helper()
	if c := (&counted{l: l}); steps < 5000 && (c.ask(rows, row) != want || c.steps != steps) {
		t.Fatalf("%d steps, not %d, %v: %s", c.steps, steps, want, brief(rowTexts(rows)))
	}
	wantErr := api.OK
	if steps > api.MaxWork {
		want, wantErr = false, api.ErrMany
	}
	if got, err := Useful(l, rows, row); got != want || err != wantErr {
		t.Errorf("%d steps: %v, %v: %s", steps, got, err, brief(rowTexts(rows)))
	}
}

// TestSteps: each asking is one, that of no columns and that of a constructor's parts, too.
func TestSteps(t *testing.T) {
	t.Parallel()
	l := types()
	for n := range 16 {
		wantSteps(t, l, flags(n), nones(n), 2<<n-1, n == 0)
	}
	wantSteps(t, l, flags(16), nones(16), 2<<16-1, false)
	for n := range 40 {
		wantSteps(t, l, nil, nones(n), n+1, true)
		wantSteps(t, l, [][]api.Pat{nones(n)}, nones(n), n+1, false)
	}
	for s, want := range map[string]int{
		"": 1, "_": 2, "x": 2, "1": 2, "A": 2, "B 1": 3, "C A A": 4, "Two (Two 1 2) (Two 3 x)": 8, "Eight 1 2 3 4 5 6 7 8": 10, "1, A, B x": 5,
	} {
		wantSteps(t, l, nil, row(s), want, true)
		wantSteps(t, l, [][]api.Pat{row(s)}, row(s), want, false)
	}
}

// TestMostSteps: just MaxWork of them, and one more.
func TestMostSteps(t *testing.T) {
	t.Parallel()
	l := types()
	for _, x := range []struct {
		cols string
		more int // steps
	}{{"_", 1}, {"1", 1}, {"A", 1}, {"2, W", 2}, {"One x", 2}} {
		wantSteps(t, l, ahead(row(x.cols), flags(15)...), slices.Concat(row(x.cols), nones(15)), 65535+x.more, false)
	}
	// They are steps behind the others as well: the columns behind all the others are asked of each way.
	for behind := 1; behind < 4; behind++ {
		rows := flags(14)
		for i := range rows {
			rows[i] = append(rows[i], nones(behind)...)
		}
		wantSteps(t, l, rows, nones(14+behind), 1<<15-1+behind<<14, false)
	}
	// A true that comes with the last step, and one that would come with one more.
	for n := 1; n < 3; n++ {
		rows := ahead(nones(n), lastLeft(14, 2)...)
		wantSteps(t, l, rows, nones(n+16), 65535+n, true)
		// One more row meets what is left.
		wantSteps(t, l, append(rows, nones(n+16)), nones(n+16), 65535+n, false)
	}
}

// lastLeft is rows of flags and some columns behind, that leave a value just where all flags are True, which is asked last.
func lastLeft(n, behind int) [][]api.Pat {
	var out [][]api.Pat
	for i := range n {
		for _, s := range []string{"False", "True"} {
			r := nones(n + behind)
			r[i] = pcon(s)
			if s == "True" {
				r[n] = pcon("True")
			}
			out = append(out, r)
		}
	}
	return out
}

// TestFirstLeft: what is left is found on the first way, however many there are.
func TestFirstLeft(t *testing.T) {
	rows := lastLeft(20, 1)
	for _, r := range rows {
		for i, p := range r[:20] {
			switch p.Name {
			case "True":
				r[i].Name = "False"
			case "False":
				r[i].Name = "True"
			}
		}
	}
	wantSteps(t, types(), rows, nones(21), 22, true)
	wantSteps(t, types(), append(rows, nones(21)), nones(21), api.MaxWork+1, false)
}

// TestOrder: constructors are gone through in the type's order, up to the first that leaves a value: one that takes too many steps is asked, unless such a one stands ahead.
func TestOrder(t *testing.T) {
	t.Parallel()
	l := types()
	turned := slices.Clone(l)
	for i, d := range turned {
		turned[i].Cons = slices.Clone(d.Cons)
		slices.Reverse(turned[i].Cons)
	}
	four := []string{"W", "X", "Y", "Z"}
	for big, a := range four {
		for left, b := range four {
			if a == b {
				continue
			}
			rows := ahead([]api.Pat{pcon(a)}, flags(16)...)
			for _, s := range four {
				r := append([]api.Pat{pcon(s)}, nones(16)...)
				if s == b {
					r[5] = pint(1)
				}
				rows = append(rows, r)
			}
			if (big+left)%2 == 0 {
				slices.Reverse(rows)
			}
			wantErr := map[bool]api.Errno{true: api.OK, false: api.ErrMany}
			if got, err := Useful(l, rows, nones(17)); got != (left < big) || err != wantErr[left < big] {
				t.Errorf("%s is great, %s is left: %v, %v", a, b, got, err)
			}
			if got, err := Useful(turned, rows, nones(17)); got != (left > big) || err != wantErr[left > big] {
				t.Errorf("%s is great, %s is left, from behind: %v, %v", a, b, got, err)
			}
		}
	}
}

// TestTwiceInARow: a type that nobody checked, with one constructor twice: it is gone through twice.
func TestTwiceInARow(t *testing.T) {
	for n := 1; n < 5; n++ {
		l := []api.Decl{{Name: "s", Cons: slices.Repeat([]api.Con{{Name: "S"}}, n)}}
		way := 1
		total := 1
		for range 6 {
			way *= n
			total += way
		}
		all := [][]api.Pat{}
		for i := range 6 {
			r := nones(6)
			r[i] = pcon("S")
			all = append(all, r)
		}
		wantSteps(t, l, all, nones(6), total, false)
		wantSteps(t, l, all, append([]api.Pat{pcon("S")}, nones(5)...), 1+(total-1)/n, false)
	}
}

// tuple is a type with a constructor of so many fields, more than a program may have.
func tuple(n int) api.Decl {
	return api.Decl{Name: fmt.Sprint("tuple", n), Cons: []api.Con{{Name: fmt.Sprint("Tuple", n), Fields: slices.Repeat([]api.Type{{Kind: api.TyInt}}, n)}}}
}

// tupled is each row as one pattern.
func tupled(rows [][]api.Pat) []api.Pat {
	var out []api.Pat
	for _, r := range rows {
		out = append(out, pcon(fmt.Sprint("Tuple", len(r)), r...))
	}
	return out
}

// TestStepsOfColumns: Exhaustive and Idle, with just MaxWork steps and one more.
func TestStepsOfColumns(t *testing.T) {
	t.Parallel()
	l := append(types(), tuple(14), tuple(15))
	one := func(l []api.Pat) []api.Pat {
		var out []api.Pat
		for _, p := range l {
			out = append(out, pcon("One", p))
		}
		return out
	}
	// One step is that of the pattern that meets any; those of the tuple's parts come behind.
	all := tupled(flags(15))
	if got, err := Exhaustive(l, all); !got || err != api.OK {
		t.Error(got, err)
	}
	if got, err := Exhaustive(l, one(all)); got || err != api.ErrMany {
		t.Error(got, err)
	}
	// The last row takes the most steps.
	all = append(all, pcon("Tuple15", nones(15)...))
	if got, err := Idle(l, all); len(got) != 29 || err != api.OK {
		t.Error(got, err)
	}
	if got, err := Idle(l, one(all)); got != nil || err != api.ErrMany {
		t.Error(got, err)
	}
	// Each row alone takes few enough steps, all of them together too many.
	all = append(tupled(flags(14)), pvar("x"), pcon("Tuple14", nones(14)...), pvar("x"), pvar("y"), pcon("Tuple14", append(nones(13), pcon("True"))...), pcon("Nil"))
	if got, err := Idle(l, all); len(got) != 26+6 || err != api.OK {
		t.Error(got, err)
	}
}

// TestManyOfOneRow: one row that takes too many steps is enough, though rows behind it take few.
func TestManyOfOneRow(t *testing.T) {
	t.Parallel()
	l := append(types(), tuple(17))
	var all [][]api.Pat
	for _, r := range flags(14) {
		all = append(all, append(r, nones(3)...))
	}
	for _, i := range []int{0, 13, 27, 28} {
		got, err := Idle(l, append(slices.Insert(tupled(all), i, pvar("x")), pcon("Nil"), pcon("Nil")))
		if i == 28 && (got != nil || err != api.ErrMany) || i < 28 && (len(got) == 0 || err != api.OK) {
			t.Errorf("x as row %d: %v, %v", i, got, err)
		}
	}
}
