package scope

import (
	"fmt"
	"reflect"
	"slices"
	"strings"
	"testing"

	"athanor/api"
	"athanor/parse"
)

func read(t *testing.T, s string) api.Program {
	t.Helper()
	p, at, err := parse.Parse(s)
	if err != api.OK {
		t.Fatalf("%q: %v at %d", s, err, at)
	}
	return p
}

// checkAll holds all that can be asked of a program against the second reading.
func checkAll(t *testing.T, p api.Program) api.Fault {
	t.Helper()
	got := Check(p)
	if want := plainCheck(p); got != want {
		t.Fatalf("Check(%.500s) is %v, not %v", fmt.Sprint(p), got, want)
	}
	checkFree(t, p.Main)
	all := All(p)
	if want := slices.Concat(three, p.Decls); !slices.EqualFunc(all, want, sameDecl) {
		t.Fatalf("All is %.500s, not %.500s", fmt.Sprint(all), fmt.Sprint(want))
	}
	return got
}

func sameDecl(a, b api.Decl) bool {
	return a.At == b.At && parse.Same(api.Program{Decls: []api.Decl{a}}, api.Program{Decls: []api.Decl{b}})
}

func checkFree(t *testing.T, e api.Expr) []string {
	t.Helper()
	got := Free(e)
	if want := plainFree(e); !slices.Equal(got, want) {
		t.Fatalf("Free(%.500s) is %.500q, not %.500q", fmt.Sprint(e), got, want)
	}
	return got
}

// alike tells whether two values are, where no list and an empty one are one.
func alike[T any](a, b T) bool {
	return reflect.DeepEqual(copyOf(a), copyOf(b))
}

// marked is a text without the @ that stands ahead of the place of its fault, and that place.
func marked(t *testing.T, s string) (string, int) {
	t.Helper()
	if strings.Count(s, "@") != 1 {
		t.Fatalf("%q has no place, or two", s)
	}
	return strings.Replace(s, "@", "", 1), strings.Index(s, "@")
}

func wantFault(t *testing.T, s string, code api.Errno) {
	t.Helper()
	text, at := marked(t, s)
	if got := checkAll(t, read(t, text)); got != (api.Fault{Code: code, At: at}) {
		t.Errorf("%s: %v", s, got)
	}
}

func wantNone(t *testing.T, s string) {
	t.Helper()
	if got := checkAll(t, read(t, s)); got != (api.Fault{}) {
		t.Errorf("%s: %v", s, got)
	}
}

// samples is programs of all kinds, with faults and without.
func samples() []string {
	return []string{
		"1", "x", "fun x -> x", "let x = x in x y", "let rec f x = g f x in f x", "let rec x x = x in x",
		"case a of Cons b (Cons c _) -> b c d | d -> d b | 3 -> Nil end", "if a then b else c", "a; b; a", "print (f (1 + x * y))",
		"type t = A; A", "type t = A | A; A", "type t 'a 'b = A ('a -> t 'b 'a) (list 'a) | B; type u = C (t u int); fun x -> A x Nil",
		"type t = A nope; A", "type int = A; Cons 1 Nil", "case Nil of Cons x x -> x | B -> z end",
	}
}

func TestExamples(t *testing.T) {
	wantFault(t, "fun x -> @y", api.ErrScope)
	wantFault(t, "@type t = A | A; 1", api.ErrDecl)
	wantFault(t, "case 1 of Cons x @x -> 1 | _ -> 2 end", api.ErrScope)
	if got := Check(read(t, "fun x -> y")); got != (api.Fault{Code: api.ErrScope, At: 9}) {
		t.Error(got)
	}
	if got := Check(read(t, "type t = A | A; 1")); got != (api.Fault{Code: api.ErrDecl, At: 0}) {
		t.Error(got)
	}
}

func TestSamples(t *testing.T) {
	for _, s := range samples() {
		checkAll(t, read(t, s))
	}
}

func TestAll(t *testing.T) {
	a := api.Type{Kind: api.TyVar, Name: "a"}
	want := []api.Decl{
		{Name: "unit", Cons: []api.Con{{Name: "Unit"}}},
		{Name: "bool", Cons: []api.Con{{Name: "False"}, {Name: "True"}}},
		{Name: "list", Params: []string{"a"}, Cons: []api.Con{{Name: "Nil"}, {Name: "Cons", Fields: []api.Type{a, {Kind: api.TyCon, Name: "list", Args: []api.Type{a}}}}}},
	}
	for _, p := range []api.Program{{}, {Decls: []api.Decl{}}, {Main: api.Expr{Kind: api.ExVar, Name: "x", At: 5}}, read(t, "fun x -> x")} {
		if got := All(p); !alike(got, want) {
			t.Errorf("%v", got)
		}
	}
	p := read(t, " type t 'b = A ('b -> t int) | B; type u = C; 1")
	want = append(want,
		api.Decl{Name: "t", Params: []string{"b"}, Cons: []api.Con{{Name: "A", Fields: []api.Type{{Kind: api.TyFun, Args: []api.Type{{Kind: api.TyVar, Name: "b"}, {Kind: api.TyCon, Name: "t", Args: []api.Type{{Kind: api.TyInt}}}}}}}, {Name: "B"}}, At: 1},
		api.Decl{Name: "u", Cons: []api.Con{{Name: "C"}}, At: 34},
	)
	if got := All(p); !alike(got, want) {
		t.Errorf("%v", got)
	}
	// Those of every program go ahead, whatever the program declares.
	same := api.Program{Decls: slices.Concat(p.Decls, want, p.Decls)}
	if got := All(same); !alike(got, slices.Concat(want[:3], same.Decls)) {
		t.Errorf("%v", got)
	}
	for _, p := range oddPrograms() {
		if got := All(p); !alike(got, slices.Concat(want[:3], p.Decls)) {
			t.Errorf("%v", got)
		}
	}
}

// TestAllIsNew: what is told may be changed, and the next that is told is as it was.
func TestAllIsNew(t *testing.T) {
	for _, p := range append(oddPrograms(), api.Program{}, read(t, "type t 'a = A ('a -> list 'a) | B; 1")) {
		given, want := copyOf(p), copyOf(All(p))
		for range 2 {
			got := All(p)
			if !reflect.DeepEqual(copyOf(got), want) {
				t.Errorf("%v, not %v", got, want)
			}
			overwrite(reflect.ValueOf(&got).Elem())
		}
		if !alike(p, given) {
			t.Errorf("%v is changed", p)
		}
	}
}

func TestFind(t *testing.T) {
	type found struct {
		decl, tag int
		ok        bool
	}
	check := func(l []api.Decl, con string, want found) {
		t.Helper()
		if decl, tag, ok := Find(l, con); (found{decl, tag, ok}) != want {
			t.Errorf("%s: %d, %d, %v, not %v", con, decl, tag, ok, want)
		}
	}
	l := All(read(t, "type t = A | B int | C; type u 'a = D | E 'a; 1"))
	for con, want := range map[string]found{
		"Unit": {0, 0, true}, "False": {1, 0, true}, "True": {1, 1, true}, "Nil": {2, 0, true}, "Cons": {2, 1, true},
		"A": {3, 0, true}, "B": {3, 1, true}, "C": {3, 2, true}, "D": {4, 0, true}, "E": {4, 1, true},
		"F": {}, "": {}, "unit": {}, "list": {}, "t": {}, "u": {}, "a": {}, "int": {}, "cons": {}, "Con": {}, "Conss": {}, "AA": {}, "A\x00": {},
	} {
		check(l, con, want)
		check(nil, con, found{})
		check([]api.Decl{}, con, found{})
		check([]api.Decl{{Name: con, Params: []string{con}}}, con, found{})
		check(l[:0], con, found{})
	}
	for i, d := range l {
		for j, c := range d.Cons {
			check(l, c.Name, found{i, j, true})
			check(l[:i], c.Name, found{})
			check(l[i:], c.Name, found{0, j, true})
			check(slices.Concat(l[i+1:], l), c.Name, found{len(l) - 1, j, true})
		}
	}
	twice := []api.Decl{{Name: "a"}, {Name: "b", Cons: []api.Con{{Name: "A"}, {Name: "B"}, {Name: "B"}, {Name: "C"}}}, {Name: "c", Cons: []api.Con{{Name: "D"}, {Name: "C"}, {Name: "B"}, {Name: "D"}, {Name: ""}}}}
	for con, want := range map[string]found{"A": {1, 0, true}, "B": {1, 1, true}, "C": {1, 3, true}, "D": {2, 0, true}, "": {2, 4, true}, "E": {}} {
		check(twice, con, want)
	}
	wide := make([]api.Decl, 1<<18)
	wide[len(wide)-1].Cons = slices.Repeat([]api.Con{{Name: "A"}}, 1<<18)
	wide[len(wide)-1].Cons[1<<18-1].Name = "B"
	check(wide, "A", found{1<<18 - 1, 0, true})
	check(wide, "B", found{1<<18 - 1, 1<<18 - 1, true})
	check(wide, "C", found{})
}

// flaw is a declared type that has something wrong; # stands for a number of its own. It is early, if that is found ahead of every look at fields.
type flaw struct {
	text  string
	early bool
}

func flaws() []flaw {
	return []flaw{
		{"type int = A#;", true},
		{"type int 'a = A# 'a;", true},
		{"type unit = A#;", true},
		{"type bool = A#;", true},
		{"type list 'a = A#;", true},
		{"type list = A#;", true},
		{"type t# 'a 'a = A#;", true},
		{"type t# 'a 'b 'a = A#;", true},
		{"type t# 'a 'b 'c 'c = A#;", true},
		{"type t# = Unit;", true},
		{"type t# = A# | False;", true},
		{"type t# = True | A#;", true},
		{"type t# = A# | Nil | B#;", true},
		{"type t# = A# | Cons int t#;", true},
		{"type t# = A# | A#;", true},
		{"type t# = A# | B# | A# int;", true},
		{"type t# = B# | A# int | A#;", true},
		{"type t# = A# 'a;", false},
		{"type t# 'b = A# 'a;", false},
		{"type t# 'a 'b 'c = A# int | B# 'd;", false},
		{"type t# 'a = A# ('a -> 'b);", false},
		{"type t# 'a = A# ('b -> 'a);", false},
		{"type t# 'a = A# (list 't#);", false},
		{"type t# = A# nope;", false},
		{"type t# = A# a#;", false},
		{"type t# 'a = A# (t# 'a) | B# int (list int) (a int);", false},
		{"type t# = A# list;", false},
		{"type t# = A# (list int int);", false},
		{"type t# = A# (unit int);", false},
		{"type t# = A# (bool bool);", false},
		{"type t# = A# (t# int);", false},
		{"type t# 'a = A# t#;", false},
		{"type t# 'a = A# (t# 'a 'a);", false},
		{"type t# 'a 'b = A# (t# 'a);", false},
		{"type t# 'a 'b 'c 'd = A# (t# 'a 'b 'c 'd 'd);", false},
		{"type t# = A# (list (list (int -> list nope)));", false},
		{"type t# = A# (list (list (int -> list 'a)) -> int);", false},
		{"type t# = A# | B# | C# int int (int -> list list);", false},
		// Two in one.
		{"type int 'a 'a = A# | A#;", true},
		{"type list = Nil nope;", true},
		{"type t# 'a 'a = A# 'b;", true},
		{"type t# = A# nope | A#;", true},
		{"type t# = A# 'a nope | B# (list);", false},
	}
}

// goodDecls is declared types without a fault.
func goodDecls() []string {
	return []string{
		"type t# = A#;", "type a# 'a 'b 'c 'd = A# 'd 'c ('b -> 'a) | B# (a# int int int (a# 'a 'b 'c 'd));",
		"type t# 'int 'fun = A# ('fun -> 'int) unit bool (list (list 'int)) | Ab;", "type ints = A# int;",
	}
}

// numbered is the texts one behind the other, each with its number, and their places.
func numbered(texts ...string) (string, []int) {
	all := ""
	var places []int
	for i, s := range texts {
		all += " "
		places = append(places, len(all))
		all += strings.ReplaceAll(s, "#", fmt.Sprint(i))
	}
	return all, places
}

func TestDeclFaults(t *testing.T) {
	check := func(bad int, texts ...string) {
		t.Helper()
		// What is wrong with Main comes behind what is wrong with types.
		for _, main := range []string{" 1", " nope", " Cons"} {
			s, places := numbered(texts...)
			if got := checkAll(t, read(t, s+main)); got != (api.Fault{Code: api.ErrDecl, At: places[bad]}) {
				t.Errorf("%s: %v", s+main, got)
			}
		}
	}
	good := goodDecls()
	s, _ := numbered(good...)
	wantNone(t, s+" 1")
	for _, a := range flaws() {
		check(0, a.text)
		for _, g := range good {
			check(0, a.text, g)
			check(1, g, a.text)
			check(1, g, a.text, "type z = Z (list bool);")
		}
		for _, b := range flaws() {
			first := 0
			if b.early && !a.early {
				first = 1
			}
			check(first, a.text, b.text)
			check(first, a.text, b.text, good[1])
			check(first+1, good[1], a.text, b.text)
			check(2*first, a.text, good[1], b.text)
		}
	}
}

// TestDeclsTogether: types that take one another's names, and those that stand in one another.
func TestDeclsTogether(t *testing.T) {
	for _, s := range []string{
		"type t = A; @type t = B; 1",
		"type t 'a = A; @type t = B; 1",
		"type t = A; type u = B; @type t = C; 1",
		"type t = A; type u = B; @type u = C; type t = D; 1",
		"type t = A; @type t = A; type u = A; 1",
		"type t = A; @type u = A; 1",
		"type t = A; @type u = B | A; type v = B; 1",
		"type t = A | B; @type u = B int | C; 1",
		"type t = A; type u = B; @type v = C | B; 1",
		"type t = A; type u = B; @type v = C | A; 1",
		// A fault of a name goes ahead of one of a field, also behind it.
		"type t = A v; @type t = B; 1",
		"type t = A v; type u = B; @type v 'a 'a = C; 1",
		"type t = A 'a; @type u = A; x",
		"type t = A (list); type u = B 'a; @type int = C; x",
		// One that stands behind has other Params than are told.
		"@type t = A (u int); type u = B; 1",
		"@type t = A u; type u 'a = B; 1",
		"type t = A (u int); @type u 'a = B t (t int); 1",
		"@type t = A u; type v = B; 1",
		"type u = B; @type t = A u v; type w = C; 1",
		"type t = A u; @type u = B v; type x = C w; 1",
	} {
		wantFault(t, s, api.ErrDecl)
	}
	for _, s := range []string{
		"type t = A u; type u = B; 1",
		"type t = A (u int t); type u 'a 'b = B (t -> 'b) 'a; 1",
		"type t = A t | B (list t -> t); 1",
		"type u = B; type t = A u; 1",
		// Names of other kinds don't come in each other's way.
		"type t 't = T 't; let t = T 1 in t",
		"type a 'a 'b = A; type b 'a 'b = B (a 'b 'a); 1",
		"type ints = Int; type lists = Lists; 1",
		"type x = X; fun x -> case x of X -> x end",
	} {
		wantNone(t, s)
	}
}

// TestMainFaults: each fault of Main, and two.
func TestMainFaults(t *testing.T) {
	for _, s := range []string{
		"@x", "@f 1", "1 + @f", "fun x -> x @y", "let x = @x in 1", "let x = 1 in @y", "let rec f x = @g in f", "let rec f x = 1 in @x", "let rec f x = f x in f @x",
		"@Foo", "Cons 1 @Foo", "@Cons", "@Cons 1", "@Cons 1 Nil Nil", "@Nil 1", "@Unit Unit", "@True x", "fun x -> @Cons x", "type t = A int int | B; @A 1", "type t = A int int | B; @A x y z", "type t = A int int | B; @B 1", "type t = A int int | B; @C", "type t = A int int | B; A 1 @T", "type t = A; @Aa", "type t = A; @Unit 1",
		"case @x of x -> 1 end", "case 1 of x -> @y end", "case 1 of @Foo -> 1 end", "case 1 of Cons @Foo Nil -> 1 end", "case 1 of @Cons -> 1 end", "case 1 of @Cons x -> x end", "case 1 of @Cons x y z -> 1 end", "case 1 of @Nil _ -> 1 end", "case 1 of @True x -> 1 end",
		"case 1 of x -> 1 | y -> @x end", "case 1 of Nil -> 1 | Cons x y -> x y @z end",
		"case 1 of Cons x @x -> 1 end", "case 1 of Cons x (Cons y @x) -> 1 end", "case 1 of Cons (Cons x y) (Cons z @y) -> 1 end", "case 1 of Cons (Cons x (Cons _ @x)) y -> 1 end", "case 1 of Cons x (Cons @x _) -> 1 end",
		"case 1 of 1 -> 1 | Cons x @x -> 1 end", "case 1 of x -> x | x -> x | Cons x (Cons 1 (Cons y @y)) -> 1 | Cons x x -> x end", "case 1 of x -> case x of Cons x @x -> 1 end end",
		"if @x then y else z", "if 1 then @y else z", "if 1 then 2 else @z", "@x; y", "1; @y", "print @x", "print 1; print (2 + @x); y",
		// Two: the one at the left, a thing ahead of its parts.
		"@x y", "@x + y", "(fun x -> x) @x y", "let x = @y in z", "@Foo x", "@Cons x", "@Foo Foo Foo", "Cons @x Foo", "Cons @Foo x", "Cons (Cons 1 @x) y",
		"case @x of Foo -> y end", "case 1 of @Foo x x -> y end", "case 1 of @Foo x Foo -> y end", "case 1 of Cons @Foo (Cons x x) -> y end", "case 1 of Cons x (Cons @x Foo) -> y end", "case 1 of Cons @Foo Bar -> y end",
		"case 1 of x -> @y | Foo -> z end", "case 1 of @Foo -> y | Bar -> z end", "case 1 of x -> @y | Cons x x -> z end", "case 1 of Cons x @x -> y | Foo -> z end", "case 1 of x -> x | @Foo -> z end",
		"case @Foo of Bar -> 1 end", "case (case 1 of @Foo -> x end) of Bar -> y end", "case 1 of 1 -> (case 1 of @Foo -> x end) | Bar -> y end",
		"fun x -> fun y -> @z (Foo y) w", "let rec f x = @y in z", "let rec f x = x in @y z",
	} {
		wantFault(t, s, api.ErrScope)
	}
}
