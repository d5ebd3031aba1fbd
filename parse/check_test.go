package parse

import (
	"fmt"
	"math/rand"
	"reflect"
	"strings"
	"testing"

	"athanor/api"
	"athanor/lex"
)

// checkTrees holds Check against what it says: it is true just of what is read again out of the program's text.
func checkTrees(t *testing.T, p api.Program) bool {
	t.Helper()
	got := Check(p)
	s := dropped(write(p))
	if tokens, _, err := lex.Lex(s); err == api.ErrLong && len(s) > api.MaxSource || err == api.ErrMany || len(tokens) > api.MaxTokens {
		return got
	}
	read, _, err := Parse(s)
	if want := err == api.OK && alike(read, p); got != want {
		t.Fatalf("Check(%s) is %v, though %q is %s, %v", brief(p), got, s, brief(read), err)
	}
	return got
}

// alike tells whether programs are alike, the long way.
func alike(a, b api.Program) bool {
	return reflect.DeepEqual(placeless(a), placeless(b))
}

// placeless is a copy of the program with no places.
func placeless(p api.Program) api.Program {
	out := copyOf(p)
	walk(reflect.ValueOf(&out).Elem(), func(v reflect.Value) {
		if v.Kind() == reflect.Struct {
			if at := v.FieldByName("At"); at.IsValid() {
				at.SetInt(0)
			}
		}
	})
	return out
}

// copyOf is a copy of a program that shares nothing with it, its lists with spare room; empty ones are nil.
func copyOf(p api.Program) api.Program {
	return copyValue(reflect.ValueOf(p)).Interface().(api.Program)
}

func copyValue(v reflect.Value) reflect.Value {
	out := reflect.New(v.Type()).Elem()
	switch v.Kind() {
	case reflect.Struct:
		for i := range v.NumField() {
			out.Field(i).Set(copyValue(v.Field(i)))
		}
	case reflect.Slice:
		if v.Len() == 0 {
			return out
		}
		out = reflect.MakeSlice(v.Type(), 0, v.Len()+2)
		for i := range v.Len() {
			out = reflect.Append(out, copyValue(v.Index(i)))
		}
	default:
		out.Set(v)
	}
	return out
}

func variable(name string) api.Expr { return api.Expr{Kind: api.ExVar, Name: name} }

var aNumber = api.Expr{Kind: api.ExInt, N: 1}

// goodExprs is one expression of each kind, and more where its lists may differ.
func goodExprs() []api.Expr {
	any := api.Pat{Kind: api.PatAny}
	return []api.Expr{
		variable("x"), aNumber, {Kind: api.ExInt}, {Kind: api.ExInt, N: -1 << 30},
		{Kind: api.ExFun, Name: "x", Args: []api.Expr{aNumber}},
		{Kind: api.ExApp, Args: []api.Expr{aNumber, aNumber}},
		{Kind: api.ExLet, Name: "x", Args: []api.Expr{aNumber, aNumber}},
		{Kind: api.ExRec, Name: "f", Param: "x", Args: []api.Expr{aNumber, aNumber}},
		{Kind: api.ExCase, Args: []api.Expr{aNumber, aNumber}, Pats: []api.Pat{any}},
		{Kind: api.ExCase, Args: []api.Expr{aNumber, aNumber, aNumber}, Pats: []api.Pat{any, {Kind: api.PatInt, N: 2}}},
		{Kind: api.ExCon, Name: "A"},
		{Kind: api.ExCon, Name: "A", Args: []api.Expr{aNumber, {Kind: api.ExCon, Name: "B"}}},
		{Kind: api.ExPrim, Name: "+", Args: []api.Expr{aNumber, aNumber}},
		{Kind: api.ExPrint, Args: []api.Expr{aNumber}},
	}
}

func goodPats() []api.Pat {
	return []api.Pat{{Kind: api.PatAny}, {Kind: api.PatVar, Name: "x"}, {Kind: api.PatInt, N: 1}, {Kind: api.PatInt}, {Kind: api.PatCon, Name: "A"}, {Kind: api.PatCon, Name: "A", Args: []api.Pat{{Kind: api.PatAny}, {Kind: api.PatCon, Name: "B"}}}}
}

func goodTypes() []api.Type {
	number := api.Type{Kind: api.TyInt}
	return []api.Type{number, {Kind: api.TyVar, Name: "a"}, {Kind: api.TyVar, Name: "int"}, {Kind: api.TyVar, Name: "fun"}, {Kind: api.TyFun, Args: []api.Type{number, number}}, {Kind: api.TyCon, Name: "t"}, {Kind: api.TyCon, Name: "t", Args: []api.Type{number, {Kind: api.TyVar, Name: "b"}}}}
}

// The programs in which an expression, a pattern, a type stands, outside and within.
func withExpr(e api.Expr) []api.Program {
	return []api.Program{{Main: e}, {Main: api.Expr{Kind: api.ExFun, Name: "x", Args: []api.Expr{e}}}, {Main: api.Expr{Kind: api.ExCase, Args: []api.Expr{aNumber, aNumber, e}, Pats: []api.Pat{{Kind: api.PatAny}, {Kind: api.PatAny}}}}}
}

func withPat(p api.Pat) []api.Program {
	return []api.Program{{Main: api.Expr{Kind: api.ExCase, Args: []api.Expr{aNumber, aNumber}, Pats: []api.Pat{p}}}, {Main: api.Expr{Kind: api.ExCase, Args: []api.Expr{aNumber, aNumber, aNumber}, Pats: []api.Pat{{Kind: api.PatAny}, {Kind: api.PatCon, Name: "A", Args: []api.Pat{{Kind: api.PatAny}, p}}}}}}
}

func withType(x api.Type) []api.Program {
	con := api.Con{Name: "A", Fields: []api.Type{{Kind: api.TyInt}, x}}
	inner := api.Con{Name: "A", Fields: []api.Type{{Kind: api.TyFun, Args: []api.Type{{Kind: api.TyInt}, x}}}}
	return []api.Program{{Main: aNumber, Decls: []api.Decl{{Name: "t", Cons: []api.Con{con}}}}, {Main: aNumber, Decls: []api.Decl{{Name: "t", Cons: []api.Con{{Name: "B"}}}, {Name: "u", Cons: []api.Con{{Name: "C"}, inner}}}}}
}

func goodPrograms() []api.Program {
	var out []api.Program
	for _, e := range goodExprs() {
		out = append(out, withExpr(e)...)
	}
	for _, p := range goodPats() {
		out = append(out, withPat(p)...)
	}
	for _, x := range goodTypes() {
		out = append(out, withType(x)...)
	}
	return append(out, api.Program{Main: aNumber, Decls: []api.Decl{{Name: "int", Params: []string{"a", "a", "fun", "int"}, Cons: []api.Con{{Name: "A"}, {Name: "A"}}}}})
}

func TestGood(t *testing.T) {
	for _, p := range goodPrograms() {
		if !checkTrees(t, p) {
			t.Errorf("Check(%s) is false", brief(p))
		}
		// Places may be any.
		far := copyOf(p)
		walk(reflect.ValueOf(&far).Elem(), func(v reflect.Value) {
			if v.Kind() == reflect.Struct && v.FieldByName("At").IsValid() {
				v.FieldByName("At").SetInt(-1 << 63)
			}
		})
		if !Check(far) || !Same(p, far) {
			t.Errorf("%s: places", brief(p))
		}
		// Empty lists are as none.
		empty := copyOf(p)
		walk(reflect.ValueOf(&empty).Elem(), func(v reflect.Value) {
			if v.Kind() == reflect.Slice && v.IsNil() {
				v.Set(reflect.MakeSlice(v.Type(), 0, 1))
			}
		})
		if !Check(empty) || !Same(p, empty) || !Same(empty, p) || Size(empty) != Size(p) {
			t.Errorf("%s: empty lists", brief(p))
		}
	}
}

// spoiled tells the program with each one thing changed, and what is changed.
func spoiled(p api.Program, f func(changed api.Program, what string)) {
	q := copyOf(p)
	var visit func(v reflect.Value, name string)
	change := func(v reflect.Value, name string, values ...any) {
		old := reflect.New(v.Type()).Elem()
		old.Set(v)
		for _, x := range values {
			if y := reflect.ValueOf(x); !reflect.DeepEqual(y.Interface(), old.Interface()) {
				v.Set(y)
				f(q, name)
			}
		}
		v.Set(old)
	}
	visit = func(v reflect.Value, name string) {
		switch v.Kind() {
		case reflect.Struct:
			for i := range v.NumField() {
				visit(v.Field(i), v.Type().Field(i).Name)
			}
		case reflect.Slice:
			for i := range v.Len() {
				visit(v.Index(i), name)
			}
			more := copyValue(v)
			shorter := []any{}
			for i := range v.Len() {
				shorter = append(shorter, reflect.AppendSlice(copyValue(v.Slice(0, i)), v.Slice(i+1, v.Len())).Interface())
			}
			change(v, name, append(shorter, reflect.Append(more, sample(v.Type().Elem())).Interface())...)
		case reflect.Int:
			change(v, name, -1, 0, 1, 2, 3, 4, 5, 6, 7, 8, 9, 10, 11, 1<<30-1, 1<<30, -1<<30, -1<<30-1, 1<<31+1, 1<<63-1, -1<<63)
		case reflect.String:
			change(v, name, "", "y", "A", "int", "fun", "in", "_", "+", "-", "*", "/", "%", "<", "==", "=", "->", "1", "'a", "x y", "x ", " x", "x#", "aé", "a\x00", strings.Repeat("b", 32), strings.Repeat("b", 33), strings.Repeat("B", 32), strings.Repeat("B", 33), ")+(x", "True", "Fun")
		}
	}
	visit(reflect.ValueOf(&q).Elem(), "")
}

// sample is something good to put behind a list.
func sample(of reflect.Type) reflect.Value {
	for _, x := range []any{aNumber, api.Pat{Kind: api.PatAny}, api.Type{Kind: api.TyInt}, "z", api.Con{Name: "Z"}, api.Decl{Name: "z", Cons: []api.Con{{Name: "Z"}}}} {
		if reflect.TypeOf(x) == of {
			return reflect.ValueOf(x)
		}
	}
	panic(of)
}

// TestSpoiled: programs with one thing changed are told from those without, and checked by what their texts are.
func TestSpoiled(t *testing.T) {
	for _, p := range goodPrograms() {
		before := brief(p)
		good, bad := 0, 0
		spoiled(p, func(q api.Program, what string) {
			if (Same(p, q) || Same(q, p)) != (what == "At") || !Same(q, q) {
				t.Fatalf("Same(%s, %s): changed in %s", before, brief(q), what)
			}
			if checkTrees(t, q) {
				good++
			} else {
				bad++
			}
			if what == "At" && !Check(q) {
				t.Fatalf("Check(%s)", brief(q))
			}
		})
		if brief(p) != before || good == 0 || bad == 0 {
			t.Errorf("%s: %d and %d", before, good, bad)
		}
	}
}

// TestNeverOfParse: each field that a kind does not have, kinds that there are not, and wrong numbers of parts.
func TestNeverOfParse(t *testing.T) {
	bad := func(what string, list ...api.Program) {
		t.Helper()
		for _, p := range list {
			if Check(p) {
				t.Errorf("%s: Check(%s)", what, brief(p))
			}
		}
	}
	bad("nothing", api.Program{}, api.Program{Decls: []api.Decl{{Name: "t", Cons: []api.Con{{Name: "A"}}}}})
	for _, kind := range []int{0, -1, 5, 11, 12, 1 << 40, -1 << 63} {
		bad("kind", withType(api.Type{Kind: kind})...)
		bad("kind", withPat(api.Pat{Kind: kind})...)
		if kind != 5 {
			bad("kind", withExpr(api.Expr{Kind: kind})...)
		}
	}
	for _, e := range goodExprs() {
		if e.Kind != api.ExInt {
			e.N = 1
			bad("number", withExpr(e)...)
			e.N = 0
		}
		if e.Name == "" {
			e.Name = "x"
			bad("name", withExpr(e)...)
			e.Name = ""
		} else {
			for _, name := range []string{"", "in", "type", "rec", strings.Repeat("x", 33), strings.Repeat("X", 33), "'x", "1", "x y", "_", "é", "x'", "=", ";", "->", "|"} {
				old := e.Name
				e.Name = name
				bad("name", withExpr(e)...)
				e.Name = old
			}
		}
		if e.Param == "" {
			e.Param = "x"
			bad("param", withExpr(e)...)
			e.Param = ""
		} else {
			for _, name := range []string{"", "in", "X", strings.Repeat("x", 33)} {
				e.Param = name
				bad("param", withExpr(e)...)
			}
			e.Param = "x"
		}
		if e.Kind != api.ExCase {
			e.Pats = []api.Pat{{Kind: api.PatAny}}
			bad("patterns", withExpr(e)...)
			e.Pats = nil
		} else {
			for _, n := range []int{0, 1, 2, 3, 4} {
				x := e
				x.Pats = make([]api.Pat, n)
				for i := range n {
					x.Pats[i].Kind = api.PatAny
				}
				if n+1 != len(x.Args) {
					bad("patterns", withExpr(x)...)
				}
			}
			bad("no patterns", withExpr(api.Expr{Kind: api.ExCase, Args: []api.Expr{aNumber}})...)
			bad("no parts", withExpr(api.Expr{Kind: api.ExCase, Pats: []api.Pat{{Kind: api.PatAny}}})...)
		}
		if e.Kind != api.ExCon {
			for n := range 5 {
				x := e
				x.Args = nil
				for range n {
					x.Args = append(x.Args, aNumber)
				}
				if n != len(e.Args) {
					bad("parts", withExpr(x)...)
				}
			}
		}
	}
	bad("no Cons", api.Program{Main: aNumber, Decls: []api.Decl{{Name: "t"}}})
	bad("int as a declared type", withType(api.Type{Kind: api.TyCon, Name: "int"})...)
	bad("int with parts", withType(api.Type{Kind: api.TyInt, Args: []api.Type{{Kind: api.TyInt}}})...)
	bad("a var by its number", withType(api.Type{Kind: api.TyVar, N: 1})...)
	bad("a var with a number", withType(api.Type{Kind: api.TyVar, Name: "a", N: 1})...)
}

func TestIntegers(t *testing.T) {
	for _, n := range []int{-1 << 63, -1<<31 - 1, -1 << 31, -1<<30 - 1, 1 << 30, 1<<31 - 1, 1 << 31, 1<<31 + 1, 1 << 32, 1<<63 - 1} {
		if Check(api.Program{Main: api.Expr{Kind: api.ExInt, N: n}}) || Check(withPat(api.Pat{Kind: api.PatInt, N: n})[0]) {
			t.Errorf("Check of %d", n)
		}
	}
	for _, n := range []int{-1 << 30, -1<<30 + 1, -1, 0, 1, 1<<30 - 2, 1<<30 - 1} {
		if !Check(api.Program{Main: api.Expr{Kind: api.ExInt, N: n}}) || !Check(withPat(api.Pat{Kind: api.PatInt, N: n})[0]) {
			t.Errorf("Check of %d", n)
		}
	}
}

func TestNames(t *testing.T) {
	low, up := []string{"x", "int", "aB_9", "types", strings.Repeat("z", 32)}, []string{"A", "Ab_9", "Type", strings.Repeat("Z", 32)}
	for _, name := range append(low, up...) {
		small := 'a' <= name[0] && name[0] <= 'z'
		for i, p := range []api.Program{{Main: variable(name)}, {Main: api.Expr{Kind: api.ExFun, Name: name, Args: []api.Expr{aNumber}}}, withPat(api.Pat{Kind: api.PatVar, Name: name})[0], withType(api.Type{Kind: api.TyVar, Name: name})[0], {Main: aNumber, Decls: []api.Decl{{Name: name, Cons: []api.Con{{Name: "A"}}}}}, {Main: aNumber, Decls: []api.Decl{{Name: "t", Params: []string{"a", name}, Cons: []api.Con{{Name: "A"}}}}}} {
			if Check(p) != small {
				t.Errorf("%d, %s: %v", i, name, Check(p))
			}
		}
		for i, p := range []api.Program{{Main: api.Expr{Kind: api.ExCon, Name: name}}, withPat(api.Pat{Kind: api.PatCon, Name: name})[0], {Main: aNumber, Decls: []api.Decl{{Name: "t", Cons: []api.Con{{Name: "A"}, {Name: name}}}}}} {
			if Check(p) == small {
				t.Errorf("%d, %s: %v", i, name, Check(p))
			}
		}
	}
	for _, sign := range strings.Fields("+ - * / % < == = -> | ( ) ; _ <= > ! x A 1 +- ++") {
		want := strings.Contains(" + - * / % < == ", " "+sign+" ")
		if got := Check(api.Program{Main: api.Expr{Kind: api.ExPrim, Name: sign, Args: []api.Expr{aNumber, aNumber}}}); got != want {
			t.Errorf("%s: %v", sign, got)
		}
	}
}

// leaves is an expression with so many parts, whatever they are.
func leaves(kind, n int) api.Expr {
	return api.Expr{Kind: kind, Args: make([]api.Expr, n)}
}

func TestSize(t *testing.T) {
	for s, want := range map[string]int{"x": 1, "f x": 3, "fun x -> x": 2, "case x of A _ 1 -> y | B -> z end": 8, "type t = A int (t int); A": 1, "a ; b": 4, "if a then b else c": 6, "print (A 1 2)": 4} {
		if p, _, err := Parse(s); err != api.OK || Size(p) != want || Size(p) != len(nodes(p.Main, 1)) {
			t.Errorf("%s: %d, %v", s, Size(p), err)
		}
	}
	if Size(api.Program{}) != 1 {
		t.Errorf("of nothing: %d", Size(api.Program{}))
	}
	for _, n := range []int{0, 1, 100, 2046, 2047, 2048, 2049, 5000, 1 << 20} {
		want := min(n+1, api.MaxExprs+1)
		// Whatever the kind is, its parts are there.
		for _, kind := range []int{-1, 0, api.ExVar, api.ExApp, api.ExCase, 99} {
			if got := Size(api.Program{Main: leaves(kind, n)}); got != want {
				t.Errorf("%d parts of kind %d: %d", n, kind, got)
			}
		}
		if got := Size(api.Program{Main: api.Expr{Pats: make([]api.Pat, n)}}); got != want {
			t.Errorf("%d patterns: %d", n, got)
		}
		if got := Size(api.Program{Main: api.Expr{Pats: []api.Pat{{Args: make([]api.Pat, n)}}}}); got != min(want+1, api.MaxExprs+1) {
			t.Errorf("%d patterns within: %d", n, got)
		}
		half := api.Expr{Args: make([]api.Expr, n/2), Pats: make([]api.Pat, n-n/2)}
		if got := Size(api.Program{Main: half}); got != want {
			t.Errorf("%d parts and patterns: %d", n, got)
		}
	}
	for _, x := range limits() {
		for _, s := range []string{x.at, x.over} {
			p := unlimited(t, s)
			if got := Size(p); got != min(len(nodes(p.Main, 1)), api.MaxExprs+1) {
				t.Errorf("%s: %d", x.name, got)
			}
		}
	}
}

// TestManyNames: more than MaxFields parts are too many of constructors alone.
func TestManyNames(t *testing.T) {
	args := func(n int) []api.Type {
		out := make([]api.Type, n)
		for i := range out {
			out[i].Kind = api.TyInt
		}
		return out
	}
	for _, n := range []int{4, 5, 8, 9, 1000, 1 << 20} {
		if !Check(withType(api.Type{Kind: api.TyCon, Name: "t", Args: args(n)})[0]) {
			t.Errorf("a declared type with %d arguments", n)
		}
	}
	cases := api.Expr{Kind: api.ExCase, Args: []api.Expr{aNumber}}
	for range 1023 {
		cases.Args = append(cases.Args, aNumber)
		cases.Pats = append(cases.Pats, api.Pat{Kind: api.PatAny})
	}
	if !Check(api.Program{Main: cases}) {
		t.Error("a case of 1023 branches")
	}
	cases.Args[0] = api.Expr{Kind: api.ExPrint, Args: []api.Expr{aNumber}}
	if Check(api.Program{Main: cases}) || Size(api.Program{Main: cases}) != 2049 {
		t.Error("a case with one expression more")
	}
	// A text that long is read by nobody, but it is a program all the same.
	long := api.Expr{Kind: api.ExCon, Name: strings.Repeat("A", 32)}
	for range 8 {
		inner := long
		long = api.Expr{Kind: api.ExCon, Name: strings.Repeat("B", 32), Args: []api.Expr{inner, inner}}
	}
	if p := (api.Program{Main: long}); !Check(p) || len(write(p)) <= api.MaxSource {
		t.Error("a long program")
	}
}

// TestDeep: programs that are as deep as may be.
func TestDeep(t *testing.T) {
	const depth = 1 << 16
	deep := func(n int) (api.Program, api.Program, api.Program) {
		e, p, x := aNumber, api.Pat{Kind: api.PatAny}, api.Type{Kind: api.TyInt}
		for range n - 1 {
			e = api.Expr{Kind: api.ExFun, Name: "x", Args: []api.Expr{e}}
			p = api.Pat{Kind: api.PatCon, Name: "A", Args: []api.Pat{p}}
			x = api.Type{Kind: api.TyCon, Name: "t", Args: []api.Type{x}}
		}
		return api.Program{Main: e}, withPat(p)[0], withType(x)[0]
	}
	for _, n := range []int{255, 256, 257, 2048, 2049, depth} {
		e, p, x := deep(n)
		if Check(e) != (n <= 256) || Check(p) != (n <= 255) || Check(x) != (n <= 256) {
			t.Errorf("%d deep: %v, %v, %v", n, Check(e), Check(p), Check(x))
		}
		if Size(e) != min(n, 2049) || Size(p) != min(n+3, 2049) || Size(x) != 1 {
			t.Errorf("%d deep: %d, %d, %d", n, Size(e), Size(p), Size(x))
		}
		e2, p2, x2 := deep(n)
		e3, p3, x3 := deep(n - 1)
		if !Same(e, e2) || !Same(p, p2) || !Same(x, x2) || Same(e, e3) || Same(p3, p) || Same(x, x3) {
			t.Errorf("%d deep: Same", n)
		}
	}
	wide := api.Program{Main: leaves(api.ExCon, 1<<21)}
	if Check(wide) || !Same(wide, wide) || Check(api.Program{Main: aNumber, Decls: make([]api.Decl, 1<<21)}) {
		t.Error("wide")
	}
	long := api.Program{Main: variable(strings.Repeat("a", 1<<24))}
	if Check(long) || !Same(long, long) {
		t.Error("a long name")
	}
}

// TestPure: what is handed in is not changed, its spare room included.
func TestPure(t *testing.T) {
	for _, p := range goodPrograms() {
		a, b := copyOf(p), copyOf(p)
		Check(a)
		Size(a)
		Same(a, b)
		walk(reflect.ValueOf(a), func(v reflect.Value) {
			if v.Kind() == reflect.Slice {
				for i := v.Len(); i < v.Cap(); i++ {
					if !v.Slice(0, v.Cap()).Index(i).IsZero() {
						t.Errorf("%s: spare room", brief(p))
					}
				}
			}
		})
		if !reflect.DeepEqual(a, b) {
			t.Errorf("%s: changed", brief(p))
		}
	}
}

// grower grows trees by chance, with now and then something wrong.
type grower struct {
	r    *rand.Rand
	room int
	odd  int // one of so many things is wrong
}

func (g *grower) wrong() bool { return g.r.Intn(g.odd) == 0 }

func (g *grower) name(l ...string) string {
	if g.wrong() {
		l = []string{"", "x", "A", "in", "int", "1", "_", "+", "x y", "x1 ", "'a"}
	}
	return l[g.r.Intn(len(l))]
}

func (g *grower) number() int {
	l := []int{0, 1, -1, 7, 1<<30 - 1, -1 << 30}
	if g.wrong() {
		l = []int{1 << 30, -1<<30 - 1, 1 << 40}
	}
	return l[g.r.Intn(len(l))]
}

// count is a number of parts: n, or near it.
func (g *grower) count(n int) int {
	if g.wrong() {
		n += g.r.Intn(3) - 1
	}
	return max(n, 0)
}

func (g *grower) expr() api.Expr {
	g.room--
	kind := 1 + g.r.Intn(10)
	if g.room <= 0 {
		kind = []int{api.ExVar, api.ExInt, api.ExCon}[g.r.Intn(3)]
	}
	e := api.Expr{Kind: kind, At: g.r.Intn(9)}
	args := 0
	switch kind {
	case api.ExVar:
		e.Name = g.name("x", "y", "int")
	case api.ExInt:
		e.N = g.number()
	case api.ExFun:
		e.Name, args = g.name("x", "y"), 1
	case api.ExApp:
		args = 2
	case api.ExLet:
		e.Name, args = g.name("x", "y"), 2
	case api.ExRec:
		e.Name, e.Param, args = g.name("f"), g.name("x", "f"), 2
	case api.ExCase:
		pats := g.count(1 + g.r.Intn(3))
		for range pats {
			e.Pats = append(e.Pats, g.pat())
		}
		args = pats + 1
	case api.ExCon:
		e.Name, args = g.name("A", "B"), g.r.Intn(min(9, max(1, g.room)))
	case api.ExPrim:
		e.Name, args = g.name("+", "-", "*", "/", "%", "<", "=="), 2
	case api.ExPrint:
		args = 1
	}
	for range g.count(args) {
		e.Args = append(e.Args, g.expr())
	}
	return e
}

func (g *grower) pat() api.Pat {
	g.room--
	p := api.Pat{Kind: 1 + g.r.Intn(4), At: g.r.Intn(9)}
	args := 0
	switch p.Kind {
	case api.PatVar:
		p.Name = g.name("x", "y")
	case api.PatInt:
		p.N = g.number()
	case api.PatCon:
		p.Name, args = g.name("A", "B"), g.r.Intn(min(4, max(1, g.room)))
	}
	for range g.count(args) {
		p.Args = append(p.Args, g.pat())
	}
	return p
}

func (g *grower) typ() api.Type {
	g.room--
	x := api.Type{Kind: 1 + g.r.Intn(4)}
	if g.room <= 0 {
		x.Kind = api.TyInt
	}
	args := 0
	switch x.Kind {
	case api.TyVar:
		x.Name = g.name("a", "b", "int", "fun")
	case api.TyFun:
		args = 2
	case api.TyCon:
		x.Name, args = g.name("t", "u"), g.r.Intn(4)
	}
	for range g.count(args) {
		x.Args = append(x.Args, g.typ())
	}
	return x
}

func (g *grower) program() api.Program {
	var p api.Program
	for range g.r.Intn(3) {
		d := api.Decl{Name: g.name("t", "u", "int")}
		for range g.r.Intn(3) {
			d.Params = append(d.Params, g.name("a", "b", "fun"))
		}
		for range g.count(1 + g.r.Intn(3)) {
			c := api.Con{Name: g.name("A", "B")}
			for range g.r.Intn(3) {
				c.Fields = append(c.Fields, g.typ())
			}
			d.Cons = append(d.Cons, c)
		}
		p.Decls = append(p.Decls, d)
	}
	p.Main = g.expr()
	return p
}

func TestGrownTrees(t *testing.T) {
	r := rand.New(rand.NewSource(13))
	counts := map[bool]int{}
	last := api.Program{}
	for i := range 8000 {
		g := &grower{r, r.Intn(40), []int{1 << 30, 300, 30}[i%3]}
		p := g.program()
		counts[checkTrees(t, p)]++
		if n := Size(p); n != min(len(nodes(p.Main, 1)), api.MaxExprs+1) {
			t.Fatalf("Size(%s) is %d", brief(p), n)
		}
		if !Same(p, copyOf(p)) || Same(p, last) != alike(p, last) {
			t.Fatalf("Same(%s, %s)", brief(p), brief(last))
		}
		last = p
	}
	if counts[true] < 2000 || counts[false] < 800 {
		t.Error(counts)
	}
}

func FuzzTrees(f *testing.F) {
	for i := range 20 {
		f.Add(int64(i), 10*i, 1+i*i)
	}
	f.Fuzz(func(t *testing.T, seed int64, room, odd int) {
		g := &grower{rand.New(rand.NewSource(seed)), min(room, 200), max(1, odd)}
		p := g.program()
		if len(fmt.Sprint(p)) < 1<<16 {
			checkTrees(t, p)
		}
	})
}
