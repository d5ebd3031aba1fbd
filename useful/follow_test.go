package useful

import (
	"math/rand"
	"slices"
	"testing"

	"athanor/api"
)

// What follows of the chapter: a third reading, by values.

// typeOf is a type's text, read.
func typeOf(s string) api.Type {
	return mustRead("type z = Zz (" + s + "); 1").Decls[0].Cons[0].Fields[0]
}

// fieldsOf tells the fields of a constructor of a type with those arguments.
func fieldsOf(d api.Decl, c api.Con, args []api.Type) []api.Type {
	var fill func(x api.Type) api.Type
	fill = func(x api.Type) api.Type {
		if x.Kind == api.TyVar {
			return args[slices.Index(d.Params, x.Name)]
		}
		var in []api.Type
		for _, y := range x.Args {
			in = append(in, fill(y))
		}
		x.Args = in
		return x
	}
	var out []api.Type
	for _, f := range c.Fields {
		out = append(out, fill(f))
	}
	return out
}

func declOf(l []api.Decl, name string) api.Decl {
	return l[slices.IndexFunc(l, func(d api.Decl) bool { return d.Name == name })]
}

// beyond is a value of which nothing is known: what stands deeper than any pattern goes.
var beyond = vcon(-1)

// valuesOf is all values of a type down to some depth, with some integers and one more.
func valuesOf(l []api.Decl, x api.Type, deep int) []api.Val {
	switch {
	case deep == 0:
		return []api.Val{beyond}
	case x.Kind == api.TyInt:
		return []api.Val{vint(0), vint(1), vint(2), vint(77)}
	case x.Kind != api.TyCon:
		return []api.Val{beyond}
	}
	var out []api.Val
	d := declOf(l, x.Name)
	for tag, c := range d.Cons {
		for _, args := range tuplesOf(l, fieldsOf(d, c, x.Args), deep-1) {
			out = append(out, vcon(tag, args...))
		}
	}
	return out
}

// tuplesOf is all values of some types, side by side.
func tuplesOf(l []api.Decl, x []api.Type, deep int) [][]api.Val {
	out := [][]api.Val{nil}
	for _, y := range x {
		var longer [][]api.Val
		for _, v := range valuesOf(l, y, deep) {
			for _, ahead := range out {
				longer = append(longer, append(slices.Clone(ahead), v))
			}
		}
		out = longer
	}
	return out
}

// meetsAll asks Meets column by column.
func meetsAll(l []api.Decl, row []api.Pat, v []api.Val) bool {
	for i, p := range row {
		if !Meets(l, p, v[i]) {
			return false
		}
	}
	return true
}

func anyMeets(l []api.Decl, rows [][]api.Pat, v []api.Val) bool {
	return slices.ContainsFunc(rows, func(r []api.Pat) bool { return meetsAll(l, r, v) })
}

// checkValues holds what is told of rows of those types against all values.
func checkValues(t *testing.T, l []api.Decl, values [][]api.Val, rows [][]api.Pat, row []api.Pat) {
	t.Helper()
	want := slices.ContainsFunc(values, func(v []api.Val) bool { return meetsAll(l, row, v) && !anyMeets(l, rows, v) })
	if got, err := checkUseful(t, l, rows, row); got != want || err != api.OK {
		t.Fatalf("%s : %s: %v, %v, not %v", rowTexts(rows), patTexts(row), got, err, want)
	}
	if len(row) != 1 {
		return
	}
	column := slices.Concat(append(slices.Clone(rows), row)...)
	all := !slices.ContainsFunc(values, func(v []api.Val) bool { return !anyMeets(l, each(column), v) })
	if got, err := checkColumn(t, l, column); got != all || err != api.OK {
		t.Fatalf("%s: %v, %v, not %v", patTexts(column), got, err, all)
	}
	var idle []int
	for i := range column {
		if !slices.ContainsFunc(values, func(v []api.Val) bool { return Meets(l, column[i], v[0]) && !anyMeets(l, each(column[:i]), v) }) {
			idle = append(idle, i)
		}
	}
	if got, err := checkIdle(t, l, column); !slices.Equal(got, idle) || err != api.OK {
		t.Fatalf("%s: %v, %v, not %v", patTexts(column), got, err, idle)
	}
}

// typed grows patterns of the types that are asked for, by chance.
type typed struct {
	r *rand.Rand
	l []api.Decl
}

func (g typed) pat(x api.Type, deep int) api.Pat {
	switch {
	case deep == 0 || g.r.Intn(4) == 0:
		return []api.Pat{none, pvar("x")}[g.r.Intn(2)]
	case x.Kind == api.TyInt:
		return pint(g.r.Intn(3))
	case x.Kind != api.TyCon:
		return none
	}
	d := declOf(g.l, x.Name)
	c := d.Cons[g.r.Intn(len(d.Cons))]
	p := pcon(c.Name)
	for _, f := range fieldsOf(d, c, x.Args) {
		p.Args = append(p.Args, g.pat(f, deep-1))
	}
	return p
}

func (g typed) row(x []api.Type, deep int) []api.Pat {
	var out []api.Pat
	for _, y := range x {
		out = append(out, g.pat(y, deep))
	}
	return out
}

// shapes is columns of types, and how deep their patterns go.
func shapes() []struct {
	types []string
	deep  int
} {
	return []struct {
		types []string
		deep  int
	}{
		{[]string{"int"}, 1}, {[]string{"bool"}, 1}, {[]string{"four"}, 1}, {[]string{"unit"}, 1}, {[]string{"t"}, 2}, {[]string{"t"}, 3}, {[]string{"list bool"}, 3}, {[]string{"list int"}, 3}, {[]string{"one (one bool)"}, 3}, {[]string{"two bool bool"}, 2}, {[]string{"two (two bool four) (list bool)"}, 3}, {[]string{"tree bool"}, 2}, {[]string{"list (list unit)"}, 4}, {[]string{"list (bool -> int)"}, 3},
		{[]string{"bool", "bool"}, 1}, {[]string{"bool", "four"}, 1}, {[]string{"list bool", "bool"}, 2}, {[]string{"t", "t"}, 2}, {[]string{"bool", "bool", "bool"}, 1}, {[]string{"bool", "int", "four"}, 1}, {[]string{"bool", "bool", "bool", "bool"}, 1}, {[]string{"list unit", "list unit", "list unit"}, 2}, {[]string{"two bool bool", "two bool int"}, 2}, {nil, 1},
	}
}

// TestValues: where rows are exhaustive each value is met, where they are not one is not; a row is idle just if it meets no value that none ahead meets.
func TestValues(t *testing.T) {
	t.Parallel()
	l := types()
	for i, s := range shapes() {
		g := typed{rand.New(rand.NewSource(int64(i))), l}
		var cols []api.Type
		for _, x := range s.types {
			cols = append(cols, typeOf(x))
		}
		values := tuplesOf(l, cols, s.deep)
		if len(values) > 3000 {
			t.Fatal(s.types, len(values))
		}
		for n := range 500 {
			var rows [][]api.Pat
			for range g.r.Intn(2 + n%9) {
				rows = append(rows, g.row(cols, s.deep))
			}
			checkValues(t, l, values, rows, g.row(cols, s.deep))
		}
	}
}

// TestFilledUp: rows to which one that meets what is left is added again and again are exhaustive at last, and none of these is idle.
func TestFilledUp(t *testing.T) {
	t.Parallel()
	l := types()
	for i, s := range shapes() {
		if len(s.types) != 1 {
			continue
		}
		g := typed{rand.New(rand.NewSource(int64(i))), l}
		values := valuesOf(l, typeOf(s.types[0]), s.deep)
		if slices.ContainsFunc(values, hasInt) {
			continue
		}
		g.r.Shuffle(len(values), func(a, b int) { values[a], values[b] = values[b], values[a] })
		var rows []api.Pat
		for _, v := range values {
			if all, err := Exhaustive(l, rows); all || err != api.OK {
				t.Errorf("%s: %v, %v", patTexts(rows), all, err)
			}
			rows = append(rows, asPattern(l, typeOf(s.types[0]), v))
		}
		if len(rows) > 200 {
			continue
		}
		if all, err := checkColumn(t, l, rows); !all || err != api.OK {
			t.Errorf("%s: %v, %v", patTexts(rows), all, err)
		}
		if idle, err := Idle(l, rows); idle != nil || err != api.OK {
			t.Errorf("%s: %v, %v", patTexts(rows), idle, err)
		}
	}
}

// hasInt tells whether an integer is in a value: of these there are too many to be met one by one.
func hasInt(v api.Val) bool { return v.Int || slices.ContainsFunc(v.Args, hasInt) }

// asPattern is the pattern that meets just that value, and what may stand beyond.
func asPattern(l []api.Decl, x api.Type, v api.Val) api.Pat {
	switch {
	case v.Int:
		return pint(v.N)
	case v.N < 0:
		return none
	}
	d := declOf(l, x.Name)
	p := pcon(d.Cons[v.N].Name)
	for i, f := range fieldsOf(d, d.Cons[v.N], x.Args) {
		p.Args = append(p.Args, asPattern(l, f, v.Args[i]))
	}
	return p
}

// TestMoreRows: with more rows a row meets no more that is left, and with fewer no less; of what meets a value alone the order and doubles are nothing.
func TestMoreRows(t *testing.T) {
	t.Parallel()
	l := types()
	for i, s := range shapes() {
		g := typed{rand.New(rand.NewSource(int64(100 + i))), l}
		var cols []api.Type
		for _, x := range s.types {
			cols = append(cols, typeOf(x))
		}
		for range 300 {
			var rows [][]api.Pat
			for range 1 + g.r.Intn(6) {
				rows = append(rows, g.row(cols, s.deep))
			}
			row := g.row(cols, s.deep)
			got, _ := Useful(l, rows, row)
			fewer, _ := Useful(l, rows[1:], row)
			if got && !fewer {
				t.Fatalf("%s : %s: more with more rows", rowTexts(rows), patTexts(row))
			}
			g.r.Shuffle(len(rows), func(a, b int) { rows[a], rows[b] = rows[b], rows[a] })
			if again, _ := checkUseful(t, l, rows, row); again != got {
				t.Fatalf("%s : %s: unlike in another order", rowTexts(rows), patTexts(row))
			}
			if again, _ := checkUseful(t, l, slices.Concat(rows, rows[:1]), row); again != got {
				t.Fatalf("%s : %s: unlike with one twice", rowTexts(rows), patTexts(row))
			}
			if again, _ := Useful(l, append(rows, row), row); again {
				t.Fatalf("%s : %s: left by itself", rowTexts(rows), patTexts(row))
			}
		}
	}
}
