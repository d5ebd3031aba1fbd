package show

import (
	"fmt"
	"reflect"
	"slices"
	"strings"
	"testing"

	"athanor/api"
	"athanor/lex"
	"athanor/parse"
)

// checkProgram holds Program against the second writing, and what it wrote against what is read out of it.
func checkProgram(t *testing.T, p api.Program) api.Errno {
	t.Helper()
	got, err := Program(p)
	if want, wantErr := wantProgram(p); got != want || err != wantErr {
		t.Fatalf("Program(%.500s) is\n%.500q, %v, not\n%.500q, %v", fmt.Sprint(p), got, err, want, wantErr)
	}
	if err == api.OK {
		checkRead(t, p, got)
	}
	return err
}

// checkRead: the text is read as the program, unless it has too many tokens, and written again it is the same.
func checkRead(t *testing.T, p api.Program, s string) {
	t.Helper()
	if _, _, err := lex.Lex(s); err == api.ErrMany {
		return
	}
	q, at, err := parse.Parse(s)
	if err != api.OK || !parse.Same(p, q) {
		t.Fatalf("%.500q is read as %.500s, %d, %v", s, fmt.Sprint(q), at, err)
	}
	if again, err := Program(q); again != s || err != api.OK {
		t.Fatalf("%.500q is written again as %.500q, %v", s, again, err)
	}
}

func checkExpr(t *testing.T, e api.Expr) api.Errno {
	t.Helper()
	got, err := Expr(e)
	if want, wantErr := wantExpr(e); got != want || err != wantErr {
		t.Fatalf("Expr(%.500s) is\n%.500q, %v, not\n%.500q, %v", fmt.Sprint(e), got, err, want, wantErr)
	}
	if err == api.OK && len(got) < api.MaxSource {
		checkRead(t, api.Program{Main: e}, got+"\n")
	}
	return err
}

// checkType holds Type against the second writing; as a field in brackets, the text is read as the type.
func checkType(t *testing.T, x api.Type) api.Errno {
	t.Helper()
	got, err := Type(x)
	if want, wantErr := wantType(x); got != want || err != wantErr {
		t.Fatalf("Type(%.500s) is\n%.500q, %v, not\n%.500q, %v", fmt.Sprint(x), got, err, want, wantErr)
	}
	s := "type t = A (" + got + "); 1"
	if err != api.OK || len(s) > api.MaxSource {
		return err
	}
	q, at, readErr := parse.Parse(s)
	if readErr == api.ErrMany && at > 0 {
		return err
	}
	if readErr != api.OK || !parse.Same(q, inDecl(x)) {
		t.Fatalf("%.500q is read as %.500s, %v", s, fmt.Sprint(q), readErr)
	}
	return err
}

// inDecl is a program with the type as a field.
func inDecl(x api.Type) api.Program {
	return api.Program{Decls: []api.Decl{{Name: "t", Cons: []api.Con{{Name: "A", Fields: []api.Type{x}}}}}, Main: one}
}

// Small things to make others of.
var (
	one  = api.Expr{Kind: api.ExInt, N: 1}
	x    = api.Expr{Kind: api.ExVar, Name: "x"}
	none = api.Pat{Kind: api.PatAny}
)

func fun(body api.Expr) api.Expr {
	return api.Expr{Kind: api.ExFun, Name: "v", Args: []api.Expr{body}}
}

func app(f, a api.Expr) api.Expr {
	return api.Expr{Kind: api.ExApp, Args: []api.Expr{f, a}}
}

func let(a, b api.Expr) api.Expr {
	return api.Expr{Kind: api.ExLet, Name: "v", Args: []api.Expr{a, b}}
}

func rec(a, b api.Expr) api.Expr {
	return api.Expr{Kind: api.ExRec, Name: "f", Param: "v", Args: []api.Expr{a, b}}
}

func con(name string, args ...api.Expr) api.Expr {
	return api.Expr{Kind: api.ExCon, Name: name, Args: args}
}

func prim(sign string, a, b api.Expr) api.Expr {
	return api.Expr{Kind: api.ExPrim, Name: sign, Args: []api.Expr{a, b}}
}

func printed(a api.Expr) api.Expr {
	return api.Expr{Kind: api.ExPrint, Args: []api.Expr{a}}
}

// cased is a case; each pattern has the branch at its place.
func cased(of api.Expr, pats []api.Pat, branches ...api.Expr) api.Expr {
	return api.Expr{Kind: api.ExCase, Args: append([]api.Expr{of}, branches...), Pats: pats}
}

func pcon(name string, args ...api.Pat) api.Pat {
	return api.Pat{Kind: api.PatCon, Name: name, Args: args}
}

// How an expression stands: as a whole, as an atom, at the head of an application, as a branch.
type standing struct {
	e                        api.Expr
	text, atom, head, branch string
}

func standings() []standing {
	n := func(k int) api.Expr { return api.Expr{Kind: api.ExInt, N: k} }
	return []standing{
		{x, "x", "x", "x", "x"},
		{n(0), "0", "0", "0", "0"},
		{n(-1), "~1", "~1", "~1", "~1"},
		{n(1<<30 - 1), "1073741823", "1073741823", "1073741823", "1073741823"},
		{n(-1 << 30), "~1073741824", "~1073741824", "~1073741824", "~1073741824"},
		{fun(x), "fun v -> x", "(fun v -> x)", "(fun v -> x)", "(fun v -> x)"},
		{app(x, one), "x 1", "(x 1)", "x 1", "x 1"},
		{let(one, x), "let v = 1 in x", "(let v = 1 in x)", "(let v = 1 in x)", "(let v = 1 in x)"},
		{rec(one, x), "let rec f v = 1 in x", "(let rec f v = 1 in x)", "(let rec f v = 1 in x)", "(let rec f v = 1 in x)"},
		{cased(x, []api.Pat{none}, one), "case x of _ -> 1 end", "(case x of _ -> 1 end)", "(case x of _ -> 1 end)", "case x of _ -> 1 end"},
		{con("A"), "A", "A", "(A)", "A"},
		{con("A", x), "A x", "(A x)", "(A x)", "A x"},
		{con("A", x, con("B"), con("C", one)), "A x B (C 1)", "(A x B (C 1))", "(A x B (C 1))", "A x B (C 1)"},
		{prim("+", x, one), "x + 1", "(x + 1)", "(x + 1)", "x + 1"},
		{printed(x), "print x", "(print x)", "(print x)", "print x"},
	}
}

// TestPlaces: every kind of expression at every place within every other.
func TestPlaces(t *testing.T) {
	any := []api.Pat{none, none}
	for _, s := range standings() {
		places := []struct {
			e    api.Expr
			want string
		}{
			{s.e, s.text},
			{fun(s.e), "fun v -> " + s.text},
			{app(s.e, x), s.head + " x"},
			{app(x, s.e), "x " + s.atom},
			{app(app(s.e, one), x), s.head + " 1 x"},
			{app(app(x, s.e), one), "x " + s.atom + " 1"},
			{app(x, app(s.e, one)), "x (" + s.head + " 1)"},
			{let(s.e, x), "let v = " + s.text + " in x"},
			{let(x, s.e), "let v = x in " + s.text},
			{rec(s.e, x), "let rec f v = " + s.text + " in x"},
			{rec(x, s.e), "let rec f v = x in " + s.text},
			{cased(s.e, any[:1], x), "case " + s.text + " of _ -> x end"},
			{cased(x, any[:1], s.e), "case x of _ -> " + s.branch + " end"},
			{cased(x, any, s.e, one), "case x of _ -> " + s.branch + " | _ -> 1 end"},
			{cased(x, any, one, s.e), "case x of _ -> 1 | _ -> " + s.branch + " end"},
			{con("C", s.e), "C " + s.atom},
			{con("C", s.e, x), "C " + s.atom + " x"},
			{con("C", x, s.e), "C x " + s.atom},
			{prim("-", s.e, x), s.atom + " - x"},
			{prim("-", x, s.e), "x - " + s.atom},
			{printed(s.e), "print " + s.atom},
			{fun(printed(s.e)), "fun v -> print " + s.atom},
		}
		for _, p := range places {
			checkText(t, p.e, p.want)
		}
	}
}

// checkText: the expression has that text, alone and as a program.
func checkText(t *testing.T, e api.Expr, want string) {
	t.Helper()
	if got, err := Expr(e); got != want || err != api.OK {
		t.Errorf("%q, %v, not %q", got, err, want)
	}
	if got, err := Program(api.Program{Main: e}); got != want+"\n" || err != api.OK {
		t.Errorf("%q, %v, not %q and the byte 10", got, err, want)
	}
	checkExpr(t, e)
}

// TestTwoDeep: every kind within every kind within every kind, against the second writing.
func TestTwoDeep(t *testing.T) {
	around := func(e api.Expr) []api.Expr {
		any := []api.Pat{none, none}
		return []api.Expr{fun(e), app(e, x), app(x, e), let(e, x), let(x, e), rec(e, x), rec(x, e), cased(e, any, x, one), cased(x, any, e, one), cased(x, any, one, e), con("A", e), con("A", e, e), prim("*", e, x), prim("*", x, e), printed(e)}
	}
	for _, s := range standings() {
		for _, a := range around(s.e) {
			for _, b := range around(a) {
				for _, c := range around(b) {
					checkExpr(t, c)
				}
			}
		}
	}
}

func TestSigns(t *testing.T) {
	signs := strings.Fields("+ - * / % < ==")
	for _, a := range signs {
		checkText(t, prim(a, x, one), "x "+a+" 1")
		for _, b := range signs {
			checkText(t, prim(a, prim(b, x, one), x), "(x "+b+" 1) "+a+" x")
			checkText(t, prim(a, x, prim(b, x, one)), "x "+a+" (x "+b+" 1)")
		}
	}
}

func TestPatterns(t *testing.T) {
	number := func(n int) api.Pat { return api.Pat{Kind: api.PatInt, N: n} }
	for _, c := range []struct {
		p          api.Pat
		text, atom string
	}{
		{none, "_", "_"},
		{api.Pat{Kind: api.PatVar, Name: "y"}, "y", "y"},
		{number(0), "0", "0"},
		{number(5), "5", "5"},
		{number(-5), "~5", "~5"},
		{number(1<<30 - 1), "1073741823", "1073741823"},
		{number(-1 << 30), "~1073741824", "~1073741824"},
		{pcon("A"), "A", "A"},
		{pcon("A", none), "A _", "(A _)"},
		{pcon("A", pcon("B"), number(-1), pcon("C", pcon("D", none))), "A B ~1 (C (D _))", "(A B ~1 (C (D _)))"},
	} {
		checkText(t, cased(x, []api.Pat{c.p}, one), "case x of "+c.text+" -> 1 end")
		checkText(t, cased(x, []api.Pat{none, c.p}, one, x), "case x of _ -> 1 | "+c.text+" -> x end")
		checkText(t, cased(x, []api.Pat{pcon("P", c.p)}, one), "case x of P "+c.atom+" -> 1 end")
		checkText(t, cased(x, []api.Pat{pcon("P", c.p, none, c.p)}, one), "case x of P "+c.atom+" _ "+c.atom+" -> 1 end")
		checkText(t, cased(x, []api.Pat{pcon("P", pcon("Q", c.p))}, one), "case x of P (Q "+c.atom+") -> 1 end")
	}
}

func tyvar(name string) api.Type { return api.Type{Kind: api.TyVar, Name: name} }

func tyfun(a, b api.Type) api.Type { return api.Type{Kind: api.TyFun, Args: []api.Type{a, b}} }

func tycon(name string, args ...api.Type) api.Type {
	return api.Type{Kind: api.TyCon, Name: name, Args: args}
}

var integer = api.Type{Kind: api.TyInt}

func TestTypes(t *testing.T) {
	for _, c := range []struct {
		x                api.Type
		text, from, atom string
	}{
		{integer, "int", "int", "int"},
		{tyvar("a"), "'a", "'a", "'a"},
		{tyvar("fun"), "'fun", "'fun", "'fun"},
		{tyfun(integer, tyvar("b")), "int -> 'b", "(int -> 'b)", "(int -> 'b)"},
		{tycon("t"), "t", "t", "t"},
		{tycon("t", integer), "t int", "t int", "(t int)"},
		{tycon("t", tycon("u"), tycon("u", tyvar("a")), tyfun(integer, integer)), "t u (u 'a) (int -> int)", "t u (u 'a) (int -> int)", "(t u (u 'a) (int -> int))"},
	} {
		for _, p := range []struct {
			x    api.Type
			want string
		}{
			{c.x, c.text},
			{tyfun(c.x, integer), c.from + " -> int"},
			{tyfun(integer, c.x), "int -> " + c.text},
			{tyfun(tyfun(c.x, integer), c.x), "(" + c.from + " -> int) -> " + c.text},
			{tyfun(integer, tyfun(c.x, integer)), "int -> " + c.from + " -> int"},
			{tycon("l", c.x), "l " + c.atom},
			{tycon("l", integer, c.x, tycon("l", c.x)), "l int " + c.atom + " (l " + c.atom + ")"},
		} {
			if got, err := Type(p.x); got != p.want || err != api.OK {
				t.Errorf("%q, %v, not %q", got, err, p.want)
			}
			checkType(t, p.x)
			checkProgram(t, inDecl(p.x))
		}
		if got, err := Program(inDecl(c.x)); got != "type t = A "+c.atom+";\n1\n" || err != api.OK {
			t.Errorf("%q, %v", got, err)
		}
	}
}

func TestDecls(t *testing.T) {
	list := api.Decl{Name: "list", Params: []string{"a"}, Cons: []api.Con{{Name: "Nil"}, {Name: "Cons", Fields: []api.Type{tyvar("a"), tycon("list", tyvar("a"))}}}}
	unit := api.Decl{Name: "unit", Cons: []api.Con{{Name: "Unit"}}}
	many := api.Decl{Name: "int", Params: []string{"a", "b", "type", "int"}, Cons: []api.Con{{Name: "F", Fields: []api.Type{tyfun(tyvar("a"), tyvar("b")), integer, integer, integer, integer, integer, integer, tycon("t")}}, {Name: "G"}, {Name: "H", Fields: []api.Type{integer}}}}
	for _, c := range []struct {
		decls []api.Decl
		want  string
	}{
		{nil, ""},
		{[]api.Decl{unit}, "type unit = Unit;\n"},
		{[]api.Decl{list}, "type list 'a = Nil | Cons 'a (list 'a);\n"},
		{[]api.Decl{many}, "type int 'a 'b 'type 'int = F ('a -> 'b) int int int int int int t | G | H int;\n"},
		{[]api.Decl{list, unit, list}, "type list 'a = Nil | Cons 'a (list 'a);\ntype unit = Unit;\ntype list 'a = Nil | Cons 'a (list 'a);\n"},
	} {
		p := api.Program{Decls: c.decls, Main: fun(x)}
		if got, err := Program(p); got != c.want+"fun v -> x\n" || err != api.OK {
			t.Errorf("%q, %v, not %q", got, err, c.want)
		}
		checkProgram(t, p)
	}
}

func TestExamples(t *testing.T) {
	for s, want := range map[string]string{
		"fun x -> x + (1 * y)": "fun x -> x + (1 * y)",
		"fun x->x+1*y":         "fun x -> x + (1 * y)",
		"f x (g y)":            "f x (g y)",
		"((f) (x))((g) y)":     "f x (g y)",
		"a;b;c":                "case a of Unit -> case b of Unit -> c end end",
		"if a then let x = 1 in x else fun y -> y": "case a of True -> (let x = 1 in x) | False -> (fun y -> y) end",
		"a - b - c":           "(a - b) - c",
		"# nothing\n ~0 + ~5": "0 + ~5",
		"case fun x -> x of y->(case y of _->1 end) end": "case fun x -> x of y -> case y of _ -> 1 end end",
	} {
		p, _, err := parse.Parse(s)
		if err != api.OK {
			t.Fatal(s, err)
		}
		checkText(t, p.Main, want)
	}
}

// TestRefused: what did not come of parse is not written.
func TestRefused(t *testing.T) {
	good := []api.Expr{}
	for _, s := range standings() {
		good = append(good, s.e)
	}
	for _, e := range good {
		spoil(t, e, func(e api.Expr) { refuseExpr(t, e) })
	}
	for _, p := range []api.Pat{none, {Kind: api.PatVar, Name: "x"}, {Kind: api.PatInt, N: 3}, pcon("A"), pcon("A", none)} {
		spoil(t, p, func(p api.Pat) {
			refuseExpr(t, cased(x, []api.Pat{p}, one))
			refuseExpr(t, cased(x, []api.Pat{none, pcon("B", none, p)}, one, one))
		})
	}
	for _, y := range []api.Type{integer, tyvar("a"), tyfun(integer, integer), tycon("t"), tycon("t", integer)} {
		spoil(t, y, func(y api.Type) {
			refuseType(t, y)
			refuseType(t, tyfun(y, integer))
			refuseType(t, tycon("u", integer, y))
		})
	}
	refuseType(t, api.Type{Kind: api.TyVar, N: 1})
	refuseType(t, api.Type{Kind: api.TyVar, Name: "a", N: 1})
	refuseType(t, api.Type{Kind: api.TyVar})
	refuseType(t, api.Type{})
	refuseType(t, tycon("int"))
	refuseType(t, tycon("fun"))
	refuseExpr(t, api.Expr{})
	for _, d := range []api.Decl{{}, {Name: "t"}, {Name: "T", Cons: []api.Con{{Name: "A"}}}, {Name: "fun", Cons: []api.Con{{Name: "A"}}}, {Name: "t", Cons: []api.Con{{}}}, {Name: "t", Cons: []api.Con{{Name: "a"}}}, {Name: "t", Params: []string{""}, Cons: []api.Con{{Name: "A"}}}, {Name: "t", Params: []string{"'a"}, Cons: []api.Con{{Name: "A"}}}, {Name: "t", Params: strings.Fields("a b c d e"), Cons: []api.Con{{Name: "A"}}}} {
		refuseProgram(t, api.Program{Decls: []api.Decl{d}, Main: one})
		refuseProgram(t, api.Program{Decls: []api.Decl{{Name: "u", Cons: []api.Con{{Name: "A"}}}, d}, Main: one})
	}
	refuseProgram(t, api.Program{})
	refuseProgram(t, api.Program{Decls: []api.Decl{{Name: "u", Cons: []api.Con{{Name: "A"}}}}})
}

// spoil tells the thing with each field that its kind does not have filled, with names that are none, and with a number of parts that is not its kind's.
func spoil[T any](t *testing.T, good T, f func(T)) {
	t.Helper()
	set := func(field string, value any) {
		bad := good
		reflect.ValueOf(&bad).Elem().FieldByName(field).Set(reflect.ValueOf(value))
		f(bad)
	}
	v := reflect.ValueOf(good)
	kind := int(v.FieldByName("Kind").Int())
	named := v.FieldByName("Name").String() != ""
	for _, k := range []int{-1, 0, 11, 1 << 40} {
		set("Kind", k)
	}
	if named {
		for _, name := range []string{"", "in", "_", "x y", "1", "'a", "\x00", "=", strings.Repeat("x", 33), strings.Repeat("X", 33)} {
			// A type's parameter may be a key word.
			if _, isType := any(good).(api.Type); !isType || kind != api.TyVar || name != "in" {
				set("Name", name)
			}
		}
	} else {
		set("Name", "x")
		set("Name", "A")
	}
	if _, isExpr := any(good).(api.Expr); isExpr && kind == api.ExInt || !isExpr && kind == api.PatInt && v.Type() != reflect.TypeOf(integer) {
		set("N", 1<<30)
		set("N", -1<<30-1)
		set("N", 1<<31+1)
	} else {
		set("N", 1)
		set("N", -1)
	}
	args := v.FieldByName("Args")
	if !manyArgs(any(good)) {
		longer := reflect.MakeSlice(args.Type(), args.Len()+1, args.Len()+1)
		for i := range longer.Len() {
			longer.Index(i).Set(smallest(args.Type().Elem()))
		}
		set("Args", longer.Interface())
		if args.Len() > 0 {
			set("Args", longer.Slice(0, args.Len()-1).Interface())
		}
	}
	if e, ok := any(good).(api.Expr); ok {
		set("Pats", append(slices.Clone(e.Pats), none))
		if e.Kind == api.ExCase {
			set("Pats", []api.Pat{})
		}
		if e.Kind == api.ExRec {
			set("Param", "")
			set("Param", "X")
			set("Param", "in")
		} else {
			set("Param", "x")
		}
	}
}

// manyArgs tells whether the thing may have any number of parts.
func manyArgs(x any) bool {
	switch x := x.(type) {
	case api.Expr:
		return x.Kind == api.ExCon
	case api.Pat:
		return x.Kind == api.PatCon
	case api.Type:
		return x.Kind == api.TyCon
	}
	return false
}

func smallest(of reflect.Type) reflect.Value {
	for _, x := range []any{one, none, integer} {
		if reflect.TypeOf(x) == of {
			return reflect.ValueOf(x)
		}
	}
	panic(of)
}

func refuseProgram(t *testing.T, p api.Program) {
	t.Helper()
	if s, err := Program(p); s != "" || err != api.ErrArg {
		t.Errorf("Program(%.200s) is %.200q, %v", fmt.Sprint(p), s, err)
	}
}

func refuseExpr(t *testing.T, e api.Expr) {
	t.Helper()
	for _, e := range []api.Expr{e, fun(e), con("A", x, e), cased(x, []api.Pat{none, none}, one, e)} {
		if s, err := Expr(e); s != "" || err != api.ErrArg {
			t.Errorf("Expr(%.200s) is %.200q, %v", fmt.Sprint(e), s, err)
		}
		refuseProgram(t, api.Program{Main: e})
	}
}

func refuseType(t *testing.T, x api.Type) {
	t.Helper()
	if s, err := Type(x); s != "" || err != api.ErrArg {
		t.Errorf("Type(%.200s) is %.200q, %v", fmt.Sprint(x), s, err)
	}
	refuseProgram(t, inDecl(x))
}

// words is an application of names whose text has so many bytes, 3 at least.
func words(bytes int) api.Expr {
	name := func(n int) api.Expr { return api.Expr{Kind: api.ExVar, Name: strings.Repeat("z", n)} }
	e := name(1)
	left := bytes - 1
	for left > 0 {
		n := min(api.MaxIdent, left-1)
		// Each part takes a blank and a byte at least.
		if left-1-n == 1 {
			n--
		}
		e = app(e, name(n))
		left -= 1 + n
	}
	return e
}

// types is a declared type with arguments, whose text has so many bytes, 3 at least.
func types(bytes int) api.Type {
	out := tycon("t")
	left := bytes - 1
	for left > 0 {
		n := min(api.MaxIdent, left-1)
		if left-1-n == 1 {
			n--
		}
		out.Args = append(out.Args, tycon(strings.Repeat("z", n)))
		left -= 1 + n
	}
	return out
}

// TestLong: texts of MaxSource bytes and of one more; of a program the byte 10 is counted, too.
func TestLong(t *testing.T) {
	for n := api.MaxSource - 70; n < api.MaxSource+70; n++ {
		e, x := words(n), types(n)
		if s, err := Expr(e); err != wantLong(n) || err == api.OK && len(s) != n {
			t.Errorf("an expression of %d bytes: %d, %v", n, len(s), err)
		}
		if s, err := Program(api.Program{Main: e}); err != wantLong(n+1) || err == api.OK && len(s) != n+1 {
			t.Errorf("a program of %d bytes: %d, %v", n+1, len(s), err)
		}
		if s, err := Type(x); err != wantLong(n) || err == api.OK && len(s) != n {
			t.Errorf("a type of %d bytes: %d, %v", n, len(s), err)
		}
		// "type t = A ", brackets, ";\n1\n"
		if s, err := Program(inDecl(x)); err != wantLong(n+17) || err == api.OK && len(s) != n+17 {
			t.Errorf("a program of %d bytes: %d, %v", n+17, len(s), err)
		}
		checkExpr(t, e)
		checkType(t, x)
		checkProgram(t, api.Program{Main: e})
		checkProgram(t, inDecl(x))
		checkProgram(t, api.Program{Decls: inDecl(types(4096)).Decls, Main: words(n - 4096)})
		checkProgram(t, api.Program{Decls: slices.Repeat(inDecl(types(n-8020)).Decls, 32), Main: words(40)})
	}
}

func wantLong(bytes int) api.Errno {
	if bytes > api.MaxSource {
		return api.ErrLong
	}
	return api.OK
}

// TestBadAndLong: of two errors the first is told.
func TestBadAndLong(t *testing.T) {
	bad := words(api.MaxSource)
	for _, e := range []api.Expr{bad, fun(bad)} {
		refuseExpr(t, app(e, api.Expr{Kind: api.ExVar, Name: "in"}))
		refuseExpr(t, app(e, api.Expr{}))
	}
	x := types(2 * api.MaxSource)
	refuseType(t, tyfun(x, api.Type{Kind: api.TyVar, N: 7}))
	x.Args = append(x.Args, tycon("T"))
	refuseType(t, x)
	refuseProgram(t, api.Program{Decls: inDecl(types(2 * api.MaxSource)).Decls, Main: api.Expr{}})
}

// nested is a tree of the kind, so deep: one in the other, n times over, around the innermost.
func nested[T any](n int, inner T, around func(T) T) T {
	for range n - 1 {
		inner = around(inner)
	}
	return inner
}

func TestDeep(t *testing.T) {
	any := []api.Pat{none}
	for _, n := range []int{200, 255, 256, 257, 2048, 2049, 1 << 16} {
		want := func(most int) api.Errno {
			if n > most {
				return api.ErrArg
			}
			return api.OK
		}
		for i, around := range []func(api.Expr) api.Expr{
			fun, printed,
			func(e api.Expr) api.Expr { return app(e, x) },
			func(e api.Expr) api.Expr { return app(x, e) },
			func(e api.Expr) api.Expr { return let(e, x) },
			func(e api.Expr) api.Expr { return let(x, e) },
			func(e api.Expr) api.Expr { return rec(e, x) },
			func(e api.Expr) api.Expr { return rec(x, e) },
			func(e api.Expr) api.Expr { return con("A", x, e) },
			func(e api.Expr) api.Expr { return prim("<", e, one) },
			func(e api.Expr) api.Expr { return prim("==", one, e) },
			func(e api.Expr) api.Expr { return cased(e, any, x) },
			func(e api.Expr) api.Expr { return cased(x, any, e) },
		} {
			if err := checkExpr(t, nested(n, one, around)); err != want(256) {
				t.Errorf("%d, %d deep: %v", i, n, err)
			}
		}
		p := nested(n, none, func(p api.Pat) api.Pat { return pcon("A", none, p) })
		if err := checkExpr(t, cased(x, []api.Pat{p}, one)); err != want(255) {
			t.Errorf("patterns, %d deep: %v", n, err)
		}
		for i, around := range []func(api.Type) api.Type{
			func(y api.Type) api.Type { return tyfun(y, integer) },
			func(y api.Type) api.Type { return tyfun(integer, y) },
			func(y api.Type) api.Type { return tycon("t", y) },
			func(y api.Type) api.Type { return tycon("t", integer, y) },
		} {
			y := nested(n, integer, around)
			if err := checkType(t, y); err != want(256) {
				t.Errorf("types %d, %d deep: %v", i, n, err)
			}
			checkProgram(t, inDecl(y))
		}
	}
}

// TestManyTokens: a text that is not too long, though it has more tokens than are read.
func TestManyTokens(t *testing.T) {
	e := nested(200, con("A"), func(e api.Expr) api.Expr { return con("A", e) })
	many := con("A", slices.Repeat([]api.Expr{e}, 8)...)
	s, err := Expr(many)
	if want, _ := wantExpr(many); s != want || err != api.OK {
		t.Errorf("%d bytes, %v", len(s), err)
	}
	if _, at, err := parse.Parse(s); err != api.ErrMany || at == 0 {
		t.Errorf("read as %d, %v", at, err)
	}
	y := nested(200, tycon("a"), func(y api.Type) api.Type { return tycon("a", y) })
	wide := tycon("a", slices.Repeat([]api.Type{y}, 9)...)
	if err := checkType(t, wide); err != api.OK {
		t.Error(err)
	}
	if s, err := Program(inDecl(wide)); err != api.OK {
		t.Error(err)
	} else if _, at, err := parse.Parse(s); err != api.ErrMany || at == 0 {
		t.Errorf("read as %d, %v", at, err)
	}
}

// TestLarge: what is far too long, or far too large.
func TestLarge(t *testing.T) {
	for _, n := range []int{4000, 5000, 1 << 18} {
		x := tycon("t", slices.Repeat([]api.Type{integer}, n)...)
		want := wantLong(1 + 4*n)
		if s, err := Type(x); s != "" || err != want {
			t.Errorf("%d arguments: %d, %v", n, len(s), err)
		}
		if s, err := Program(inDecl(x)); s != "" || err != want {
			t.Errorf("%d arguments: %d, %v", n, len(s), err)
		}
		refuseExpr(t, con("A", slices.Repeat([]api.Expr{one}, n)...))
		refuseExpr(t, cased(one, make([]api.Pat, n), make([]api.Expr, n)...))
	}
	tree := nested(21, integer, func(x api.Type) api.Type { return tyfun(x, x) })
	if s, err := Type(tree); s != "" || err != api.ErrLong {
		t.Errorf("a tree: %d, %v", len(s), err)
	}
	full := cased(one, slices.Repeat([]api.Pat{none}, 1023), slices.Repeat([]api.Expr{one}, 1023)...)
	checkExpr(t, full)
	refuseExpr(t, cased(printed(one), full.Pats, full.Args[1:]...))
	refuseProgram(t, api.Program{Decls: make([]api.Decl, 1<<20), Main: one})
	name := strings.Repeat("a", 1<<24)
	refuseExpr(t, api.Expr{Kind: api.ExVar, Name: name})
	refuseType(t, tycon(name))
	decl := api.Decl{Name: strings.Repeat("t", 32), Params: slices.Repeat([]string{strings.Repeat("p", 32)}, 4), Cons: slices.Repeat([]api.Con{{Name: strings.Repeat("C", 32), Fields: slices.Repeat([]api.Type{integer}, 8)}}, 32)}
	for n := range 34 {
		err := checkProgram(t, api.Program{Decls: slices.Repeat([]api.Decl{decl}, n), Main: one})
		if (err == api.OK) != (n <= 3) || (err == api.ErrArg) != (n == 33) {
			t.Errorf("%d Decls: %v", n, err)
		}
	}
}
