package infer

import (
	"fmt"
	"strings"
	"testing"

	"athanor/api"
)

// TestHeldInLarge: a variable that stands in a type around is not open, however large that type is, written out.
func TestHeldInLarge(t *testing.T) {
	const two = "P (Cons 1 (Cons y Nil)) (Cons True (@Cons y Nil))"
	for _, n := range []int{1, 1020, 1022, 1024} {
		ahead := sizedDecls + ints("big", n)
		table(t,
			// x is p 'a 'b; then 'b is the large one, so that x has n + 2 nodes.
			ahead+"fun l -> case bot 1 of x -> case x of P a b -> case Cons b (Cons big Nil) of Nil -> let y = a in "+two+" end end end :: !unify",
			ahead+"fun l -> case bot 1 of x -> case case x of P a b -> case Cons b (Cons big Nil) of Nil -> 1 end end of _ -> let y = case x of P a _ -> a end in "+two+" end end :: !unify",
			ahead+"fun l -> case bot 1 of x -> case case x of P a b -> case Cons b (Cons big Nil) of Nil -> 1 end end of _ -> let rec f z = case x of P a _ -> a end in "+strings.ReplaceAll(two, "y Nil", "(f 1) Nil")+" end end :: !unify",
			// Likewise where x is a function's parameter, or a rec's.
			ahead+"fun l -> (fun x -> case x of P a b -> case Cons b (Cons big Nil) of Nil -> let y = a in "+two+" end end) (bot 1) :: !unify",
			ahead+"let rec f x = case x of P a b -> case Cons b (Cons big Nil) of Nil -> let y = a in "+two+" end end in fun l -> 1 :: !unify",
			// What is known of x in the end does not hang on it: y is open, unless it is x's.
			ahead+"fun l -> case bot 1 of x -> case x of P a b -> case Cons b (Cons big Nil) of Nil -> let y = bot 1 in P (Cons 1 (Cons y Nil)) (Cons True (Cons y Nil)) end end end :: list int -> p (list int) (list bool)",
		)
	}
}

// doubledAround is a function's beginning in which x0 is a type of 2^n parts, all of them x's: each is bound while it is small.
func doubledAround(n int, s string) string {
	var b strings.Builder
	b.WriteString(sizedDecls + "fun l -> case bot 1 of x0 -> ")
	for i := range n {
		fmt.Fprintf(&b, "case x%d of P x%d y -> case P (Cons x%d (Cons y Nil)) 1 of P _ _ -> ", i, i+1, i+1)
	}
	b.WriteString(s + " end")
	b.WriteString(strings.Repeat(" end end", n))
	return b.String()
}

// TestDoubledAround: types around whose nodes, written out, are more than could ever be counted.
func TestDoubledAround(t *testing.T) {
	for _, n := range []int{1, 5, 9, 10, 11, 40, 75} {
		last := fmt.Sprintf("x%d", n)
		table(t,
			doubledAround(n, "1")+" :: list int -> int",
			doubledAround(n, last)+" :: list int -> 'a",
			doubledAround(n, "let y = "+last+" in P (y + 1) (@y; 1)")+" :: !unify",
			doubledAround(n, "let y = fun z -> P "+last+" z in P (y 1) (y True)")+" :: list int -> p (p 'a int) (p 'a bool)",
		)
		for _, i := range []int{0, n / 2, n - 1} {
			// A type of 2^(n-i+1) - 1 nodes.
			s := doubledAround(n, fmt.Sprintf("case Cons 1 l of Nil -> let y = @x%d in 1 end", i))
			if n-i >= 10 {
				wantFault(t, s, api.ErrMany)
				continue
			}
			s, _ = marked(s)
			wantType(t, s, "list int -> int")
		}
	}
}

// aroundOne is an expression with another one within; that one is an integer, and so is the whole.
type aroundOne struct {
	name string
	of   func(x api.Expr) api.Expr
}

func aroundOnes() []aroundOne {
	unit := pcon("Unit")
	return []aroundOne{
		{"argument", func(x api.Expr) api.Expr { return app(name("id"), x) }},
		{"function", func(x api.Expr) api.Expr { return app(app(name("k"), x), one) }},
		{"body", func(x api.Expr) api.Expr { return app(fun("x", x), one) }},
		{"first of a let", func(x api.Expr) api.Expr { return let("x", x, name("x")) }},
		{"second of a let", func(x api.Expr) api.Expr { return let("x", one, x) }},
		{"first of a rec", func(x api.Expr) api.Expr { return rec("f", "x", x, app(name("f"), one)) }},
		{"first of a rec that is not called", func(x api.Expr) api.Expr { return rec("f", "x", x, one) }},
		{"second of a rec", func(x api.Expr) api.Expr { return rec("f", "x", app(name("f"), name("x")), x) }},
		{"first of a case", func(x api.Expr) api.Expr { return cased(x, []api.Pat{pint(1), pvar("x")}, one, name("x")) }},
		{"first branch", func(x api.Expr) api.Expr { return cased(name("l"), []api.Pat{pcon("Nil"), none}, x, one) }},
		{"last branch", func(x api.Expr) api.Expr {
			return cased(name("l"), []api.Pat{pcon("Nil"), pcon("Cons", pvar("x"), pvar("l"))}, one, x)
		}},
		{"constructor", func(x api.Expr) api.Expr {
			return cased(con("Cons", x, con("Nil")), []api.Pat{pcon("Cons", pvar("x"), none)}, name("x"))
		}},
		{"first of a sum", func(x api.Expr) api.Expr { return prim("+", x, one) }},
		{"second of a sum", func(x api.Expr) api.Expr { return prim("-", one, x) }},
		{"print", func(x api.Expr) api.Expr { return cased(printed(x), []api.Pat{unit}, one) }},
	}
}

func exprDepth(e api.Expr) int {
	most := 0
	for _, x := range e.Args {
		most = max(most, exprDepth(x))
	}
	for _, p := range e.Pats {
		most = max(most, patDepth(p))
	}
	return most + 1
}

func patDepth(p api.Pat) int {
	most := 0
	for _, x := range p.Args {
		most = max(most, patDepth(x))
	}
	return most + 1
}

// TestDeep: each kind in itself as deep as may be, around what is fine, and around what is not.
func TestDeep(t *testing.T) {
	for _, a := range aroundOnes() {
		for _, wrong := range []bool{false, true} {
			core, want := one, api.Fault{}
			if wrong {
				core, want = at(7, app(one, one)), api.Fault{Code: api.ErrUnify, At: 7}
			}
			wrap := func(x api.Expr) api.Expr {
				return at(9, let("id", fun("x", name("x")), let("k", fun("x", fun("y", name("x"))), fun("l", x))))
			}
			for exprDepth(wrap(a.of(core))) <= api.MaxDepth {
				core = a.of(core)
			}
			if got, fault := checkAll(t, api.Program{Main: wrap(core)}); fault != want || !wrong && got != "list int -> int" {
				t.Errorf("%s: %s, %v, not %v", a.name, got, fault, want)
			}
			for exprDepth(wrap(core)) <= api.MaxDepth {
				core = a.of(core)
			}
			if _, fault := checkAll(t, api.Program{Main: wrap(core)}); fault != (api.Fault{Code: api.ErrArg}) {
				t.Errorf("%s: %v, though it is too deep", a.name, fault)
			}
		}
	}
}

// TestDeepPatterns: patterns, functions and applications as deep as may be.
func TestDeepPatterns(t *testing.T) {
	for _, n := range []int{1, 100, 250} {
		brackets := func(s, core string) string {
			return strings.Repeat(s+" (", n) + core + strings.Repeat(")", n)
		}
		params := strings.Repeat("fun x -> ", n)
		table(t,
			sizedDecls+"fun l -> case bot 1 of "+brackets("D", "x")+" -> x end :: list int -> 'a",
			sizedDecls+"fun l -> case bot 1 of "+brackets("D", "1")+" -> l end :: list int -> list int",
			sizedDecls+"fun l -> case bot 1 of "+brackets("P _", "x")+" -> P x l end :: list int -> p 'a (list int)",
			sizedDecls+"fun l -> case l of "+brackets("Cons _", "x")+" -> x end :: list int -> list int",
			sizedDecls+"fun l -> case Cons 1 l of "+brackets("Cons 1", "@True")+" -> l end :: !unify",
			sizedDecls+"fun l -> case "+params+"x of _ -> l end :: list int -> list int",
			sizedDecls+"fun l -> case "+params+"@x x of _ -> l end :: !occurs",
			sizedDecls+"fun l -> bot"+strings.Repeat(" 1", n)+" :: list int -> 'a",
			sizedDecls+"fun l -> (fun f -> f"+strings.Repeat(" 1", n)+") bot :: list int -> 'a",
		)
	}
}

// wideDecls has a type whose patterns and expressions may have very many parts, and be not deep.
const wideDecls = "type n 'a = N 'a 'a 'a 'a 'a 'a 'a (n 'a) | E; let rec bot z = bot z in "

// wide is so many things (or some more), in a pattern or an expression.
func wide(n int, thing func(i int) string) string {
	var b strings.Builder
	for i := 0; i < n; i += 7 {
		b.WriteString("N")
		for k := range 7 {
			b.WriteString(" " + thing(i+k))
		}
		b.WriteString(" (")
	}
	b.WriteString("E" + strings.Repeat(")", (n+6)/7))
	return b.String()
}

// TestWide: programs with very many names around, and of very many parts.
func TestWide(t *testing.T) {
	x := func(i int) string { return fmt.Sprint("x", i) }
	vars := wideDecls + "fun l -> case bot 1 of " + wide(1000, x) + " -> "
	table(t,
		vars+"x999 end :: list int -> 'a",
		vars+"x0 + 1 end :: list int -> int",
		vars+"case x0 + 1 of _ -> x999 end end :: list int -> int",
		vars+"let y = x999 in case y + 1 of _ -> x0 end end :: list int -> int",
		vars+"let y = x999 in case y + 1 of _ -> @y; l end end :: !unify",
		vars+"let y = bot 1 in case y + 1 of _ -> y; l end end :: list int -> list int",
		vars+wide(70, func(i int) string { return fmt.Sprintf("(let y = x%d in y)", i) })+" end :: list int -> n 'a",
		vars+wide(70, func(i int) string { return fmt.Sprintf("(let y = fun z -> x%d in y l)", i) })+" end :: list int -> n 'a",
		vars+wide(49, func(i int) string { return fmt.Sprintf("(let rec f z = x%d in f l)", i) })+" end :: list int -> n 'a",
		vars+wide(70, func(i int) string { return fmt.Sprintf("(let y = bot 1 in y + %d)", i) })+" end :: list int -> n int",

		wideDecls+"fun l -> "+wide(1000, func(i int) string { return fmt.Sprint(i) })+" :: list int -> n int",
		wideDecls+"fun l -> "+wide(1000, func(i int) string { return "Nil" })+" :: list int -> n (list 'a)",
		wideDecls+"fun l -> "+wide(1000, func(i int) string { return "l" })+" :: list int -> n (list int)",
		"type n 'a = N 'a 'a 'a 'a 'a 'a 'a (n 'a) | E; @fun l -> "+wide(400, func(i int) string { return "(fun x -> l)" })+" :: !main",
		wideDecls+"fun l -> "+wide(1000, func(i int) string { return map[bool]string{true: "@Nil", false: "1"}[i == 900] })+" :: !unify",
	)
}

// TestManyTaken: a scheme with as many open variables as may be, taken as often as may be; and as many that are not open.
func TestManyTaken(t *testing.T) {
	t.Parallel()
	fine := func(s string) {
		t.Helper()
		p := mustRead(sizedDecls + sized("x", 1021, 1, "bot 1") + s)
		if got, fault := Infer(p); fault != (api.Fault{}) || !strings.HasPrefix(text(got, 2), "list int -> p (") {
			t.Errorf("%.100s: %.100s, %v", s, text(got, 2), fault)
		}
		// The second reading takes its time.
		if len(s) < 800 {
			checkAll(t, p)
		}
	}
	for _, n := range []int{1, 30, 850} {
		branches := "case 1 of _ -> x" + strings.Repeat(" | _ -> x", n)
		fine("fun l -> " + branches + " end")
		fine("fun l -> case x of x -> " + branches + " end end")
		fine("fun l -> let y = " + branches + " end in case y of P x _ -> P x 1 end")
		table(t, sizedDecls+sized("x", 1021, 1, "bot 1")+"fun l -> "+branches+" | _ -> @1 end :: !unify")
	}
	for _, n := range []int{1, 30, 220} {
		lets := "let y0 = x in "
		for i := range n {
			lets += fmt.Sprintf("let y%d = y%d in ", i+1, i)
		}
		fine("fun l -> " + lets + fmt.Sprint("y", n))
		fine("fun l -> case x of x -> " + lets + fmt.Sprintf("y%d end", n))
		fine("fun l -> case x of x -> " + lets + fmt.Sprintf("case y%d of P _ _ -> x end end", n))
	}
}

// checkText asks for a program that has a type, and whether that has a text.
func checkText(t *testing.T, p api.Program, want api.Errno) {
	t.Helper()
	checkAll(t, p)
	if _, fault := Infer(p); fault != (api.Fault{}) {
		t.Errorf("%s: %v", brief(p), fault)
	}
	if s, fault := Text(p); fault != (api.Fault{Code: want}) || (s == "") != (want != api.OK) {
		t.Errorf("%s: %.100s, %v, not %v", brief(p), s, fault, want)
	}
}

// TestDeepTexts: a type that is more than MaxDepth deep has no text.
func TestDeepTexts(t *testing.T) {
	ds := func(n int, s string) string { return strings.Repeat("D (", n) + s + strings.Repeat(")", n) }
	for n := 250; n <= 260; n++ {
		want := api.OK
		if n > api.MaxDepth {
			want = api.ErrArg
		}
		// The arrow is one, and what is in it.
		checkText(t, mustRead(sizedTypes+"let x = "+ds(200, "1")+" in fun l -> "+ds(n-202, "x")), want)
		checkText(t, mustRead(sizedTypes+"let x = "+ds(200, "Nil")+" in fun l -> "+ds(n-203, "x")), want)
		checkText(t, mustRead(sizedTypes+"let x = "+ds(100, "1")+" in fun l -> P x (P ("+ds(100, "x")+") ("+ds(n-104, "x")+"))"), want)
	}
}

// TestLongTexts: a type whose text is of more than MaxSource bytes has none.
func TestLongTexts(t *testing.T) {
	long := strings.Repeat("p", api.MaxIdent)
	program := func(ds, last int) (api.Program, int) {
		decls := "type " + long + " 'a 'b = P 'a 'b; type d 'a = D 'a; type " + strings.Repeat("q", last) + " = Q; "
		lets := "let x0 = 1 in "
		for i := range 7 {
			lets += fmt.Sprintf("let x%d = P x%d x%d in ", i+1, i, i)
		}
		p := mustRead(decls + lets + "fun l -> P x7 (P x6 (P x4 " + strings.Repeat("(D ", ds) + "Q" + strings.Repeat(")", ds) + "))")
		s, _ := checkAll(t, p)
		return p, len(s)
	}
	ds, n := 0, 0
	for n <= api.MaxSource-20 {
		ds++
		_, n = program(ds, 1)
	}
	met := map[int]bool{}
	for last := 1; last <= api.MaxIdent; last++ {
		p, n := program(ds, last)
		want := api.OK
		if n > api.MaxSource {
			want = api.ErrLong
		}
		checkText(t, p, want)
		met[n-api.MaxSource] = true
	}
	if !met[-1] || !met[0] || !met[1] {
		t.Error(met)
	}
	// What is too deep, too, is told to be that.
	deep := "let y = " + strings.Repeat("D (", 200) + "1" + strings.Repeat(")", 200) + " in "
	checkText(t, mustRead("type "+long+" 'a = D 'a; "+deep+"fun l -> "+strings.Repeat("D (", 54)+"y"+strings.Repeat(")", 54)), api.ErrLong)
	checkText(t, mustRead("type "+long+" 'a = D 'a; "+deep+"fun l -> "+strings.Repeat("D (", 55)+"y"+strings.Repeat(")", 55)), api.ErrArg)
}
