package infer

import (
	"fmt"
	"strings"
	"testing"

	"athanor/api"
)

// What types of any number of nodes are made of: the types, and the beginning of Main.
const (
	sizedTypes = "type p 'a 'b = P 'a 'b; type d 'a = D 'a; "
	sizedDecls = sizedTypes + "let rec bot z = bot z in "
)

// sized binds name to something whose type has n nodes: pairs of pairs, around something of base nodes.
func sized(name string, n, base int, of string) string {
	switch {
	case n == base:
		return fmt.Sprintf("let %s = %s in ", name, of)
	case n%2 == 0 || n < 2*base+1:
		return sized(name, n-1, base, of) + fmt.Sprintf("let %s = D %s in ", name, name)
	}
	return sized(name, (n-1)/2, base, of) + fmt.Sprintf("let %s = P %s %s in ", name, name, name)
}

// ints binds name to something of a type of n nodes, without variables.
func ints(name string, n int) string { return sized(name, n, 1, "1") }

func countNodes(t api.Type) int {
	n := 1
	for _, x := range t.Args {
		n += countNodes(x)
	}
	return n
}

// TestSized: what the edges are asked of has as many nodes as is said.
func TestSized(t *testing.T) {
	for n := 1; n <= 1021; n++ {
		if n > 30 && n < 1000 && n%37 != 0 {
			continue
		}
		for _, x := range []string{ints("x", n), sized("x", n, 1, "bot 1")} {
			got, fault := Infer(mustRead(sizedDecls + x + "fun l -> x"))
			if fault != (api.Fault{}) || countNodes(got) != n+3 {
				t.Fatalf("%s: %d nodes, %v", x, countNodes(got), fault)
			}
		}
	}
}

// edge is a program with something, x, of so many nodes: with one more it has that fault, at the place that is marked (at Main, if there is none).
type edge struct {
	n    int
	s    string
	want string
}

func (e edge) check(t *testing.T) {
	t.Helper()
	// With variables in it, or without.
	for _, of := range []string{"1", "bot 1"} {
		clean, _ := marked(e.s)
		if got, fault := checkAll(t, mustRead(sizedDecls+sized("x", e.n, 1, of)+clean)); fault != (api.Fault{}) {
			t.Errorf("%s, of %d: %.100s, %v", e.s, e.n, got, fault)
		}
		one := sizedTypes + "@" + sizedDecls[len(sizedTypes):] + sized("x", e.n+1, 1, of) + e.s
		if clean != e.s {
			one = strings.Replace(one, "@", "", 1)
		}
		table(t, one+" :: !"+e.want)
	}
}

// TestMostNodes: just MaxTypes nodes may a type have, written out, and no more: of the first of a let, of a rec, of Main, and of what Unify binds a variable to.
func TestMostNodes(t *testing.T) {
	t.Parallel()
	for _, e := range []edge{
		{1023, "let y = @D x in fun l -> 1", "many"},
		{511, "let y = @P x (D x) in fun l -> 1", "many"},
		{1022, "let y = @fun z -> x in fun l -> 1", "many"},
		{1021, "let y = @fun z -> D x in fun l -> 1", "many"},
		{1020, "let y = @fun z -> fun y -> x in fun l -> 1", "many"},
		{1023, "fun l -> let y = @Cons x Nil in 1", "many"},
		{1022, "fun l -> let y = @P l x in 1", "many"},
		{1021, "fun l -> case Cons 1 l of _ -> let y = @P l x in 1 end", "many"},
		{340, "let y = @let z = P x x in P z x in fun l -> 1", "many"},
		{1023, "let y = case 1 of _ -> let z = @D x in 1 end in fun l -> 1", "many"},

		{1022, "let rec f z = @x in fun l -> 1", "many"},
		{1021, "let rec f z = @D x in fun l -> 1", "many"},
		{1021, "let rec f z = @case z of D w -> x end in fun l -> 1", "many"},
		{511, "let rec f z = @case Cons z (Cons x Nil) of _ -> x end in fun l -> 1", "many"},
		{1020, "let rec f z = @fun y -> x in fun l -> 1", "many"},
		{1022, "let rec f z = @case f 1 of _ -> case Cons (f 2) (Cons x Nil) of _ -> f 3 end end in fun l -> 1", "many"},
		{1022, "fun l -> let rec f z = @case Cons z (Cons x Nil) of _ -> 1 end in 1", "many"},

		{1021, "fun l -> x", "many"},
		{1020, "fun l -> D x", "many"},
		{1019, "fun l -> Cons (Cons x Nil) Nil", "many"},
		{1019, "fun l -> P 1 x", "many"},
		{1012, "fun l -> P l (P l (P l x))", "many"},
		{509, "fun l -> P x (D (D x))", "many"},

		{1023, "fun l -> (@fun z -> 1) (D x)", "many"},
		{511, "fun l -> (@fun z -> 1) (P x (D x))", "many"},
		{1021, "fun l -> case (@fun z -> P 1 (D z)) x of _ -> 1 end", "many"},
		{1023, "fun l -> case D x of @y -> 1 end", "many"},
		{1023, "fun l -> case D x of @_ -> 1 end", "many"},
		{1023, "fun l -> case 1 of 1 -> 2 | _ -> case Cons x Nil of @_ -> 1 end end", "many"},
		{1023, "fun l -> case case 1 of _ -> @D x end of _ -> 1 end", "many"},
		{1023, "fun l -> case case 1 of 1 -> bot 1 | _ -> @D x end of _ -> 1 end", "many"},
		{1023, "fun l -> case Cons (@D x) Nil of Nil -> 1 end", "many"},
		{1022, "fun l -> case D (@D (D x)) of D _ -> 1 end", "many"},
		{1020, "fun l -> case P 1 (@P 2 (P 3 x)) of P _ _ -> 1 end", "many"},
	} {
		t.Run(fmt.Sprint(e.n, e.s), e.check)
	}
}

// TestAsItStands: a type that is handed to Unify may have no more than MaxTypes nodes as it stands, wherever that is.
func TestAsItStands(t *testing.T) {
	t.Parallel()
	for _, e := range []edge{
		{1022, "fun l -> (@fun z -> 1) x", "arg"},
		{1020, "fun l -> (@fun z -> 1) (fun y -> x)", "arg"},
		{1022, "fun l -> case (@fun z -> x) 1 of _ -> 1 end", "arg"},
		{1020, "fun l -> case (@fun z -> fun y -> x) 1 of _ -> 1 end", "arg"},
		{1022, "fun l -> case fun z -> x of @_ -> 1 end", "arg"},
		{1020, "fun l -> case fun z -> fun y -> x of @y -> 1 end", "arg"},
		{1022, "fun l -> case case 1 of _ -> @fun z -> x end of _ -> 1 end", "arg"},
		{1022, "fun l -> case case 1 of 1 -> bot 1 | _ -> @fun z -> x end of _ -> 1 end", "arg"},
		{1022, "fun l -> case Cons (@fun z -> x) Nil of Nil -> 1 end", "arg"},
		{1022, "fun l -> case P 1 (@fun z -> x) of P _ _ -> 1 end", "arg"},
		{1020, "let rec f z = @fun w -> x in fun l -> 1", "many"},
	} {
		t.Run(fmt.Sprint(e.n, e.s), e.check)
	}
	// What is too large is told ahead of what is unlike; a rec's first, that is not too large with its function around it, too.
	large := func(n int, s string) string { return sizedDecls + ints("x", n) + s }
	table(t,
		large(1022, "fun l -> 1 + (@fun z -> x) :: !unify"),
		large(1023, "fun l -> 1 + (@fun z -> x) :: !arg"),
		large(1022, "fun l -> (@fun z -> x) < 1 :: !unify"),
		large(1023, "fun l -> (@fun z -> x) < 1 :: !arg"),
		large(1024, "fun l -> @x == 1 :: !unify"),
		large(1022, "fun l -> print (@fun z -> x) :: !unify"),
		large(1023, "fun l -> print (@fun z -> x) :: !arg"),
		large(1022, "fun l -> @1 x :: !unify"),
		large(1023, "fun l -> @1 x :: !arg"),
		large(1022, "fun l -> case fun z -> x of @1 -> 1 end :: !unify"),
		large(1023, "fun l -> case fun z -> x of @1 -> 1 end :: !arg"),
		large(1024, "fun l -> case x of @1 -> 1 end :: !unify"),
		large(1022, "fun l -> case 1 of 1 -> 2 | _ -> @fun z -> x end :: !unify"),
		large(1023, "fun l -> case 1 of 1 -> 2 | _ -> @fun z -> x end :: !arg"),
		large(1022, "fun l -> Cons 1 (@fun z -> x) :: !unify"),
		large(1023, "fun l -> Cons 1 (@fun z -> x) :: !arg"),
		large(1021, "let rec f z = @fun w -> x in fun l -> 1 :: !many"),
		large(1022, "let rec f z = @fun w -> x in fun l -> 1 :: !many"),
		large(1023, "let rec f z = @fun w -> x in fun l -> 1 :: !arg"),
		large(1022, "let rec f z = @case f 1 of _ -> fun w -> x end in fun l -> 1 :: !many"),
		large(1023, "let rec f z = case f 1 of _ -> @fun w -> x end in fun l -> 1 :: !arg"),
		large(1023, "fun l -> case fun z -> @x x of _ -> 1 end :: !arg"),
		large(1021, "let y = @fun z -> fun w -> x in fun l -> 1 :: !many"),
		large(1024, "let y = @fun z -> fun w -> x in fun l -> 1 :: !many"),
	)
}

// TestMainAtMost: Main's type is counted ahead of its unification with that of a program, and behind.
func TestMainAtMost(t *testing.T) {
	t.Parallel()
	of := func(n int, s string) string {
		return sizedTypes + "@let rec bot z = bot z in " + ints("x", n) + s
	}
	for n := 1005; n <= 1020; n++ {
		// 'a -> p 'a (p 'a (p 'a x)), where list int has one node more than 'a.
		want := "ok"
		switch {
		case n > 1016:
			want = "!many"
		case n > 1015:
			want = "!main"
		case n > 1012:
			want = "!many"
		}
		checkMain(t, of(n, "fun l -> P l (P l (P l x))"), want)
		// A function's result is too large, and no function's.
		checkMain(t, of(n, "fun l -> P l (P l (fun z -> x))"), map[bool]string{true: "!many", false: "!main"}[n > 1016])
	}
	for n := 1015; n <= 1024; n++ {
		// What takes x is no program, nor are pairs.
		checkMain(t, of(n, "fun z -> case Cons z (Cons x Nil) of Nil -> 1 end"), map[bool]string{true: "!many", false: "!main"}[n > 1022])
		checkMain(t, of(n, "P 1 x"), map[bool]string{true: "!many", false: "!main"}[n > 1022])
		checkMain(t, of(n, "fun l -> x"), map[bool]string{true: "!many", false: "ok"}[n > 1021])
		checkMain(t, of(n, "fun l -> fun z -> x"), map[bool]string{true: "!many", false: "!main"}[n > 1020])
		checkMain(t, of(n, "x"), "!main")
	}
}

// checkMain asks for a program that is fine, or whose fault is at Main, which is marked.
func checkMain(t *testing.T, s, want string) {
	t.Helper()
	if want != "ok" {
		table(t, s+" :: "+want)
		return
	}
	s, _ = marked(s)
	if _, fault := checkAll(t, mustRead(s)); fault != (api.Fault{}) {
		t.Errorf("%s: %v", s, fault)
	}
}

// TestDoubled: types that are doubled again and again are too large at the first let whose type is, however they are doubled.
func TestDoubled(t *testing.T) {
	steps := func(first, step string, from, to int) string {
		s := strings.ReplaceAll(first, "#", fmt.Sprint(from))
		for i := from; i < to; i++ {
			s += strings.ReplaceAll(strings.ReplaceAll(step, "##", fmt.Sprint(i+1)), "#", fmt.Sprint(i))
		}
		return s
	}
	table(t,
		// 1023 nodes, then 2047.
		sizedTypes+steps("let x# = 1 in ", "let x## = P x# x# in ", 0, 9)+"fun l -> case x9 of P _ y -> 1 end :: list int -> int",
		sizedTypes+steps("let x# = 1 in ", "let x## = P x# x# in ", 0, 9)+"let x10 = @P x9 x9 in fun l -> 1 :: !many",
		sizedTypes+steps("let x# = Nil in ", "let x## = P x# x# in ", 0, 8)+"fun l -> case x8 of P _ y -> 1 end :: list int -> int",
		sizedTypes+steps("let x# = Nil in ", "let x## = P x# x# in ", 0, 8)+"let x9 = @P x8 x8 in fun l -> 1 :: !many",
		// What is bound behind the one that is too large is not looked at.
		sizedTypes+steps("let x# = 1 in ", "let x## = P x# x# in ", 0, 9)+"let x10 = @P x9 x9 in let x11 = P x10 x10 in 1 2 :: !many",
		sizedTypes+steps("let x# = 1 in ", "let x## = P x# x# in ", 0, 9)+"let x10 = P (@1 2) x9 in fun l -> 1 :: !unify",
		// Functions that double: 'a -> p 'a 'a, then what doubles twice, four times, eight times; sixteen times is too much for Unify.
		sizedTypes+steps("let f# = fun z -> P z z in ", "let f## = fun z -> f# (f# z) in ", 0, 3)+"fun l -> case f3 1 of P _ y -> 1 end :: list int -> int",
		sizedTypes+steps("let f# = fun z -> P z z in ", "let f## = fun z -> f# (f# z) in ", 0, 3)+"fun z -> @f3 (f3 z) :: !many",
		sizedTypes+steps("let f# = fun z -> P z z in ", "let f## = fun z -> f# (f# z) in ", 0, 3)+"fun z -> @f1 (f3 z) :: !many",
		// One that is bound in a rec, and whose parameter is too.
		sizedTypes+steps("let rec f# z = P z z in ", "let rec f## z = f# (f# z) in ", 0, 3)+"fun l -> case f3 1 of P _ y -> 1 end :: list int -> int",
		sizedTypes+steps("let rec f# z = P z z in ", "let rec f## z = f# (f# z) in ", 0, 3)+"let rec f4 z = @f3 (f3 z) in f4 :: !many",
		// Within a function, where what is doubled is the parameter's type, which is known behind.
		sizedTypes+"fun l -> (fun x0 -> "+steps("", "let x## = P x# x# in ", 0, 8)+"case x8 of P _ y -> Cons x0 l end) 1 :: list int -> list int",
		sizedTypes+"fun l -> (fun x0 -> "+steps("", "let x## = P x# x# in ", 0, 9)+"Cons x0 l) 1 :: list int -> list int",
		sizedTypes+"fun l -> (fun x0 -> "+steps("", "let x## = P x# x# in ", 0, 9)+"let x10 = @P x9 x9 in Cons x0 l) 1 :: !many",
		sizedTypes+"fun l -> (fun x0 -> case Cons x0 (Cons (Cons 1 l) Nil) of _ -> "+steps("", "let x## = P x# x# in ", 0, 8)+"l end) Nil :: list int -> list int",
		sizedTypes+"fun l -> (fun x0 -> case Cons x0 (Cons (Cons 1 l) Nil) of _ -> "+steps("", "let x## = P x# x# in ", 0, 8)+"let x9 = @P x8 x8 in l end) Nil :: !many",
		// What is known of the parameter behind makes what is bound larger, which is not written out any more.
		sizedTypes+"fun l -> (fun x0 -> "+steps("", "let x## = P x# x# in ", 0, 9)+"case Cons x0 (Cons (P 1 1) Nil) of _ -> l end) (P 1 2) :: list int -> list int",
		sizedTypes+"fun l -> (fun x0 -> "+steps("", "let x## = P x# x# in ", 0, 9)+"case Cons x0 (Cons (P 1 1) Nil) of _ -> case x9 of @y -> l end end) (P 1 2) :: !many",
		sizedTypes+"fun l -> (fun x0 -> "+steps("", "let x## = P x# x# in ", 0, 9)+"case Cons x0 (Cons (P 1 1) Nil) of _ -> case x9 of P y _ -> let z = y in l end end) (P 1 2) :: list int -> list int",
		sizedTypes+"fun l -> (fun x0 -> "+steps("", "let x## = P x# x# in ", 0, 9)+"case Cons x0 (Cons (P 1 1) Nil) of _ -> let z = @x9 in l end) (P 1 2) :: !many",
		sizedTypes+"fun l -> (fun x0 -> "+steps("", "let x## = P x# x# in ", 0, 9)+"case Cons x0 (Cons (P 1 1) Nil) of _ -> let z = @fun x0 -> x9 in l end) (P 1 2) :: !many",
	)
}

// leaf makes a type of n nodes (an odd number) of such leaves.
func leaf(n int, of api.Type) api.Type {
	if n == 1 {
		return of
	}
	left := n / 2
	if left%2 == 0 {
		left--
	}
	return api.Type{Kind: api.TyCon, Name: "p", Args: []api.Type{leaf(left, of), leaf(n-1-left, of)}}
}

// fielded is a program with a type whose constructor T has a field of so many nodes.
func fielded(n int, of api.Type, main string) api.Program {
	f := leaf(n-1+n%2, of)
	if n%2 == 0 {
		f = api.Type{Kind: api.TyCon, Name: "d", Args: []api.Type{f}}
	}
	p := mustRead(sizedTypes + main)
	p.Decls = append(p.Decls, api.Decl{Name: "t", Params: []string{"a"}, Cons: []api.Con{{Name: "T", Fields: []api.Type{{Kind: api.TyInt}, f}}}})
	return p
}

// TestLargeFields: a Field of more than MaxTypes nodes is refused where it is to be unified, and nowhere else.
func TestLargeFields(t *testing.T) {
	for _, of := range []api.Type{{Kind: api.TyInt}, {Kind: api.TyVar, Name: "a"}} {
		for _, n := range []int{1000, 1021, 1022, 1023, 1024, 1025, 1026, 2047, 1<<14 - 1} {
			for _, s := range []string{"fun l -> case T 1 @any of T _ _ -> 1 end", "fun l -> case any of T _ @_ -> 1 end", "fun l -> case any of T 1 @y -> 1 end"} {
				s = "let rec bot z = bot z in " + strings.ReplaceAll(s, "any", "(@bot 1)")
				if strings.Contains(s, "@(@") {
					s = strings.Replace(s, "@(@", "(@", 1)
				} else {
					s = strings.Replace(s, "(@", "(", 1)
				}
				main, place := marked(s)
				want := api.Fault{}
				if n > 1024 {
					want = api.Fault{Code: api.ErrArg, At: len(sizedTypes) + place}
				}
				p := fielded(n, of, main)
				if got, fault := checkAll(t, p); fault != want {
					t.Errorf("%d, %s: %s, %v, not %v", n, s, got, fault, want)
				}
			}
			// The type itself has few nodes; what is ahead of the Field is told first.
			for s, want := range map[string]api.Fault{
				"fun l -> l": {}, "let rec bot z = bot z in fun l -> case bot 1 of x -> 1 end": {}, "fun l -> case T (1 2) 1 of _ -> 1 end": {Code: api.ErrUnify, At: len(sizedTypes) + 17}, "fun l -> T Nil 1": {Code: api.ErrUnify, At: len(sizedTypes) + 11},
			} {
				if got, fault := checkAll(t, fielded(n, of, s)); fault != want {
					t.Errorf("%d, %s: %s, %v, not %v", n, s, got, fault, want)
				}
			}
		}
	}
}

// pattern is one of a type of n nodes, without brackets around it.
func pattern(n int) string {
	switch {
	case n == 1:
		return "1"
	case n%2 == 0:
		return "D (" + pattern(n-1) + ")"
	}
	return "P (" + pattern(n/2) + ") (" + pattern(n-1-n/2) + ")"
}

// TestLargePatterns: a pattern's type, and that of a part, is too large if a variable would be bound to more than MaxTypes nodes.
func TestLargePatterns(t *testing.T) {
	for _, c := range []struct {
		n       int
		s, want string
	}{
		{1024, "case bot 1 of # -> 1 end", ""},
		{1025, "case bot 1 of @# -> 1 end", "many"},
		{1023, "case bot 1 of D (#) -> 1 end", ""},
		{1024, "case bot 1 of @D (#) -> 1 end", "many"},
		{1025, "case bot 1 of D (@#) -> 1 end", "many"},
		{1022, "case bot 1 of P x (#) -> 1 end", ""},
		{1023, "case bot 1 of @P x (#) -> 1 end", "many"},
		{1022, "case bot 1 of D (D (#)) -> 1 end", ""},
		{1023, "case bot 1 of @D (D (#)) -> 1 end", "many"},
		{1024, "case bot 1 of D (@D (#)) -> 1 end", "many"},
		{1025, "case bot 1 of D (D (@#)) -> 1 end", "many"},
		// What it is held against is no variable: only its parts are bound.
		{1024, "case D (bot 1) of D (#) -> 1 end", ""},
		{1024, "case P (bot 1) (bot 2) of P (#) _ -> 1 end", ""},
		{1024, "case P (bot 1) (bot 2) of P 1 (#) -> 1 end", ""},
		{1025, "case P (bot 1) (bot 2) of P 1 (@#) -> 1 end", "many"},
		{1025, "case D 1 of D (@#) -> 1 end", "many"},
		{1024, "case D 1 of @D (#) -> 1 end", "unify"},
		{1024, "case 1 of @# -> 1 end", "unify"},
		{1025, "case 1 of @# -> 1 end", "unify"},
		{1025, "case 1 of 1 -> 1 | @# -> 1 end", "unify"},
		// Behind one pattern the next one's type is known.
		{512, "case bot 1 of x -> 1 | # -> 1 | # -> 1 end", ""},
		{1025, "case bot 1 of x -> 1 | @# -> 1 | 1 -> 1 end", "many"},
		{512, "case bot 1 of P (#) _ -> 1 | P _ (#) -> 1 end", ""},
	} {
		s := sizedDecls + "fun l -> " + strings.ReplaceAll(c.s, "#", pattern(c.n))
		if c.want == "" {
			wantType(t, s, "list int -> int")
		} else {
			wantFault(t, s, errnos[c.want])
		}
	}
}

// TestMuchWork: pairs are counted anew at each place, and no more than MaxWork may be looked at there.
func TestMuchWork(t *testing.T) {
	const params = 65
	var fields, from, same strings.Builder
	for i := range params {
		fields.WriteString("'a -> ")
		fmt.Fprintf(&from, "fun z%d -> ", i)
		fmt.Fprintf(&same, "Cons z%d (", i)
	}
	// The function's parameters are all of the type of x, and the Field's of one that is bound at the first of them.
	arg := from.String() + "case " + same.String() + "Cons x Nil" + strings.Repeat(")", params) + " of Nil -> 1 end"
	for n := 1020; n <= 1024; n++ {
		s := "type f 'a = F (" + fields.String() + "int); " + sizedDecls + ints("x", n) + "fun l -> case F (@" + arg + ") of F _ -> l end"
		// The arrows, what is told, the first parameter, and all nodes of the others.
		if params+2+(params-1)*n <= api.MaxWork {
			s, _ = marked(s)
			wantType(t, s, "list int -> list int")
		} else {
			wantFault(t, s, api.ErrMany)
		}
	}
}
