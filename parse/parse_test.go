package parse

import (
	"fmt"
	"math/rand"
	"reflect"
	"slices"
	"strings"
	"testing"
	"unsafe"

	"athanor/api"
	"athanor/lex"
)

// checkParse holds Parse against the second reading of the chapter, and tells what it answered.
func checkParse(t *testing.T, g *grammar, s string) (api.Program, int, api.Errno) {
	t.Helper()
	got, at, err := Parse(s)
	want, wantAt, wantErr := plainParse(g, s)
	if brief(got) != brief(want) || at != wantAt || err != wantErr {
		t.Fatalf("Parse(%.200q) is\n%s, %d, %v, not\n%s, %d, %v", s, brief(got), at, err, brief(want), wantAt, wantErr)
	}
	if err == api.OK && !Check(got) {
		t.Fatalf("Parse(%.200q) is %s, which Check refuses", s, brief(got))
	}
	return got, at, err
}

// checkFault holds that Parse refuses the text at that place.
func checkFault(t *testing.T, s string, at int, err api.Errno) {
	t.Helper()
	p, gotAt, gotErr := Parse(s)
	if brief(p) != brief(api.Program{}) || gotAt != at || gotErr != err {
		t.Errorf("Parse(%.80q) of %d bytes is %.80s, %d, %v, not %d, %v", s, len(s), brief(p), gotAt, gotErr, at, err)
	}
}

// checkTree holds that the text is that program, places and all.
func checkTree(t *testing.T, s, want string) {
	t.Helper()
	p, at, err := Parse(s)
	if got := brief(p); got != want || at != 0 || err != api.OK {
		t.Errorf("Parse(%q) is\n%s, %d, %v, not\n%s", s, got, at, err, want)
	}
}

// brief writes all that a program has, fields that should be zero as well.
func brief(p api.Program) string {
	var out strings.Builder
	for _, d := range p.Decls {
		fmt.Fprintf(&out, "type@%d %s %s", d.At, d.Name, d.Params)
		for _, c := range d.Cons {
			fmt.Fprintf(&out, " %s(%s)", c.Name, strings.Join(written(c.Fields, briefType), " "))
		}
		out.WriteString("; ")
	}
	return out.String() + briefExpr(p.Main)
}

func briefType(t api.Type) string {
	kinds := map[int]string{api.TyInt: "int", api.TyVar: "'", api.TyFun: "->", api.TyCon: ":"}
	s := kinds[t.Kind] + t.Name
	if t.N != 0 {
		s += "!"
	}
	return s + briefList(t.Args, briefType)
}

func briefPat(p api.Pat) string {
	kinds := map[int]string{api.PatAny: "_", api.PatVar: "$", api.PatInt: "=" + fmt.Sprint(p.N), api.PatCon: ":"}
	s := kinds[p.Kind] + p.Name
	if p.Kind != api.PatInt && p.N != 0 {
		s += "!"
	}
	return fmt.Sprint(s, "@", p.At) + briefList(p.Args, briefPat)
}

func briefExpr(e api.Expr) string {
	kinds := map[int]string{api.ExVar: "$", api.ExInt: "=" + fmt.Sprint(e.N), api.ExFun: "fun ", api.ExApp: "app", api.ExLet: "let ", api.ExRec: "rec ", api.ExCase: "case", api.ExCon: ":", api.ExPrim: "", api.ExPrint: "print"}
	s := kinds[e.Kind] + e.Name
	if e.Param != "" {
		s += " " + e.Param
	}
	if e.Kind != api.ExInt && e.N != 0 {
		s += "!"
	}
	s = fmt.Sprint(s, "@", e.At)
	if len(e.Pats) > 0 {
		s += "[" + strings.Join(written(e.Pats, briefPat), " ") + "]"
	}
	return s + briefList(e.Args, briefExpr)
}

func briefList[T any](l []T, f func(T) string) string {
	if len(l) == 0 {
		return ""
	}
	return "(" + strings.Join(written(l, f), " ") + ")"
}

func TestExamples(t *testing.T) {
	checkTree(t, "fun x -> x", "fun x@0($x@9)")
	checkTree(t, "1 + 2 * 3", "+@0(=1@0 *@4(=2@4 =3@8))")
	checkTree(t, "Cons 1 Nil", ":Cons@0(=1@5 :Nil@7)")
	checkTree(t, "case x of Nil -> 1 | _ -> 2 end", "case@0[:Nil@10 _@21]($x@5 =1@17 =2@26)")
	checkTree(t, "f (g x) y", "app@0(app@0($f@0 app@3($g@3 $x@5)) $y@8)")
	checkFault(t, "fun x ->", 8, api.ErrSyntax)
}

func TestTypes(t *testing.T) {
	checkTree(t, "type t = A; 1", "type@0 t [] A(); =1@12")
	checkTree(t, " type int 'int 'fun 'a = A | B int | A ; 1", "type@1 int [int fun a] A() B(int) A(); =1@41")
	checkTree(t, "type t=A int 'a u(u)('b)(int);type u=B|C;x", "type@0 t [] A(int 'a :u :u 'b int); type@30 u [] B() C(); $x@41")
	checkTree(t, "type t = A (int -> 'a -> t); x", "type@0 t [] A(->(int ->('a :t))); $x@29")
	checkTree(t, "type t = A ((int -> 'a) -> t); x", "type@0 t [] A(->(->(int 'a) :t)); $x@31")
	checkTree(t, "type t = A (t int 'a t (t t)) t; x", "type@0 t [] A(:t(int 'a :t :t(:t)) :t); $x@33")
	checkTree(t, "type t = A (t int -> t (int -> int)); x", "type@0 t [] A(->(:t(int) :t(->(int int)))); $x@38")
	checkTree(t, "type t = A (((int))) ((t (('a)))); x", "type@0 t [] A(int :t('a)); $x@35")
	for _, args := range []string{"int", "'a", "t", "(int)", "int int", "( "} {
		checkFault(t, "type t = A (int "+args+"); 1", 16, api.ErrSyntax)
		checkFault(t, "type t = A ('a "+args+"); 1", 15, api.ErrSyntax)
		checkFault(t, "type t = A ((t) "+args+"); 1", 16, api.ErrSyntax)
		checkFault(t, "type t = A (t -> int "+args+"); 1", 21, api.ErrSyntax)
	}
	checkFault(t, "type t = A (int int ?); 1", 20, api.ErrLex)
	checkFault(t, "type t = A int -> int; 1", 15, api.ErrSyntax)
	checkFault(t, "type t = A;", 11, api.ErrSyntax)
	checkFault(t, "type t = A; type", 16, api.ErrSyntax)
	checkFault(t, "1; type t = A; 1", 3, api.ErrSyntax)
	checkFault(t, "type T = A; 1", 5, api.ErrSyntax)
	checkFault(t, "type t = a; 1", 9, api.ErrSyntax)
	checkFault(t, "type t a = A; 1", 7, api.ErrSyntax)
	checkFault(t, "type t = A | ; 1", 13, api.ErrSyntax)
	checkFault(t, "type t = | A ; 1", 9, api.ErrSyntax)
	checkFault(t, "type t = A () ; 1", 12, api.ErrSyntax)
}

// TestBinding: what binds closer, from which side, and how far things go.
func TestBinding(t *testing.T) {
	checkTree(t, "a - b + c", "+@0(-@0($a@0 $b@4) $c@8)")
	checkTree(t, "a / b * c % d", "%@0(*@0(/@0($a@0 $b@4) $c@8) $d@12)")
	checkTree(t, "a + b * c - d", "-@0(+@0($a@0 *@4($b@4 $c@8)) $d@12)")
	checkTree(t, "a * b + c", "+@0(*@0($a@0 $b@4) $c@8)")
	checkTree(t, "a + b < c - d", "<@0(+@0($a@0 $b@4) -@8($c@8 $d@12))")
	checkTree(t, "a == b * c", "==@0($a@0 *@5($b@5 $c@9))")
	checkTree(t, "f a * g b", "*@0(app@0($f@0 $a@2) app@6($g@6 $b@8))")
	checkTree(t, "print a + print b", "+@0(print@0($a@6) print@10($b@16))")
	checkTree(t, "C a + D", "+@0(:C@0($a@2) :D@6)")
	checkTree(t, "f C D a", "app@0(app@0(app@0($f@0 :C@2) :D@4) $a@6)")
	checkTree(t, "C D (E a) 1 x", ":C@0(:D@2 :E@5($a@7) =1@10 $x@12)")
	checkTree(t, "1 2", "app@0(=1@0 =2@2)")
	checkTree(t, "print C", "print@0(:C@6)")
	checkTree(t, "a < b ; c == d ; e", "case@0[:Unit@0](<@0($a@0 $b@4) case@8[:Unit@8](==@8($c@8 $d@13) $e@17))")
	checkTree(t, "fun x -> a ; b", "fun x@0(case@9[:Unit@9]($a@9 $b@13))")
	checkTree(t, "a ; fun x -> b ; c", "case@0[:Unit@0]($a@0 fun x@4(case@13[:Unit@13]($b@13 $c@17)))")
	checkTree(t, "let x = a ; b in c ; d", "let x@0(case@8[:Unit@8]($a@8 $b@12) case@17[:Unit@17]($c@17 $d@21))")
	checkTree(t, "let rec f x = f x in f ; 1", "rec f x@0(app@14($f@14 $x@16) case@21[:Unit@21]($f@21 =1@25))")
	checkTree(t, "if a ; b then c ; d else e ; f", "case@0[:True@0 :False@0](case@3[:Unit@3]($a@3 $b@7) case@14[:Unit@14]($c@14 $d@18) case@25[:Unit@25]($e@25 $f@29))")
	checkTree(t, "if a then if b then c else d else if e then f else g", "case@0[:True@0 :False@0]($a@3 case@10[:True@10 :False@10]($b@13 $c@20 $d@27) case@34[:True@34 :False@34]($e@37 $f@44 $g@51))")
	checkTree(t, "case a of A -> fun x -> b | B -> c ; d end", "case@0[:A@10 :B@28]($a@5 fun x@15($b@24) case@33[:Unit@33]($c@33 $d@37))")
	checkTree(t, "case a of A -> case b of B -> c | C -> d end | D -> e end", "case@0[:A@10 :D@47]($a@5 case@15[:B@25 :C@34]($b@20 $c@30 $d@39) $e@52)")
	checkTree(t, "case case a of A -> b end of C -> d end", "case@0[:C@29](case@5[:A@15]($a@10 $b@20) $d@34)")
	checkFault(t, "a < b == c", 6, api.ErrSyntax)
	checkFault(t, "a == b < c", 7, api.ErrSyntax)
	checkFault(t, "a + fun x -> x", 4, api.ErrSyntax)
	checkFault(t, "print fun x -> x", 6, api.ErrSyntax)
	checkFault(t, "print print x", 6, api.ErrSyntax)
	checkFault(t, "f print x", 2, api.ErrSyntax)
	checkFault(t, "case a of A -> b end ; c", 21, api.ErrSyntax)
	checkFault(t, "case a of A -> b end c", 21, api.ErrSyntax)
	checkFault(t, "a + case a of A -> b end", 4, api.ErrSyntax)
	checkFault(t, "- 1", 0, api.ErrSyntax)
	checkFault(t, "let rec f = 1 in f", 10, api.ErrSyntax)
	checkFault(t, "let f x = 1 in f", 6, api.ErrSyntax)
	checkFault(t, "let rec rec x = 1 in f", 8, api.ErrSyntax)
	checkFault(t, "if a then b", 11, api.ErrSyntax)
}

// TestPlaces: the place of every kind of thing, and that brackets have none.
func TestPlaces(t *testing.T) {
	checkTree(t, " ( ( x ) ) ", "$x@5")
	checkTree(t, "((1)) + 2", "+@2(=1@2 =2@8)")
	checkTree(t, "(f) (x)", "app@1($f@1 $x@5)")
	checkTree(t, "((f x)) y", "app@2(app@2($f@2 $x@4) $y@8)")
	checkTree(t, "(C) x", "app@1(:C@1 $x@4)")
	checkTree(t, "((C) x)", "app@2(:C@2 $x@5)")
	checkTree(t, "(C x) y", "app@1(:C@1($x@3) $y@6)")
	checkTree(t, "C (C) x", ":C@0(:C@3 $x@6)")
	checkTree(t, "((a) < b) ; c", "case@2[:Unit@2](<@2($a@2 $b@7) $c@12)")
	checkTree(t, "(a ; b) ; c", "case@1[:Unit@1](case@1[:Unit@1]($a@1 $b@5) $c@10)")
	checkTree(t, " if (a) then (b) else (c)", "case@1[:True@1 :False@1]($a@5 $b@14 $c@23)")
	checkTree(t, "(if a then b else c) + 1", "+@1(case@1[:True@1 :False@1]($a@4 $b@11 $c@18) =1@23)")
	checkTree(t, "(fun x -> x) (print (1))", "app@1(fun x@1($x@10) print@14(=1@21))")
	checkTree(t, "(let x = (1) in x) * 2", "*@1(let x@1(=1@10 $x@16) =2@21)")
	checkTree(t, "(case (a) of (A) -> b end)", "case@1[:A@14]($a@7 $b@20)")
	checkTree(t, "case a of A (B 1) (_) C x ((~1)) -> b end", "case@0[:A@10(:B@13(=1@15) _@19 :C@22 $x@24 =-1@28)]($a@5 $b@36)")
	checkTree(t, "case a of ((A (B))) -> b | (x) -> c | ( _ ) -> d | ((1)) -> e end", "case@0[:A@12(:B@15) $x@28 _@40 =1@53]($a@5 $b@23 $c@34 $d@47 $e@60)")
	checkTree(t, "#c\n x # d", "$x@4")
	for _, s := range []string{"case x of (A) b -> 1 end", "case x of (a) b -> 1 end"} {
		checkFault(t, s, 14, api.ErrSyntax)
	}
	for _, s := range []string{"case x of a b -> 1 end", "case x of 1 b -> 1 end", "case x of _ b -> 1 end", "case x of _ A -> 1 end", "case x of A 'b -> 1 end", "case x of A fun -> 1 end"} {
		checkFault(t, s, 12, api.ErrSyntax)
	}
}

// allTokens is a token of each kind, each key word and each sign.
func allTokens() []string {
	out := strings.Fields("type fun let rec in case of end if then else print -> == | = ( ) ; + - * / % < _")
	return append(out, "x", "int", "A", "'a", "1", "~1")
}

// bases are programs in which each rule of the grammar stands, alone and within others.
func bases() []string {
	exprs := []string{"x", "int", "1", "A", "(x)", "f x 1", "A x (B) 1", "print x", "a * b / c % d", "a + b - c", "a < b", "a == b", "a ; b", "fun x -> y", "let x = a in b", "let rec f x = a in b", "if a then b else c", "case a of x -> b end", "case a of A -> b | _ -> c end"}
	out := slices.Clone(exprs)
	for _, outer := range []string{"(%s)", "f (%s) y", "A (%s)", "print (%s)", "(%s) * (%s)", "a - (%s) + b", "a < (%s)", "(%s) == b", "(%s) ; %s", "fun x -> %s", "let x = %s in %s", "let rec f x = %s in %s", "if %s then %s else %s", "case %s of x -> %s end", "case %s of A -> %s | 1 -> %s end", "type t = A; %s"} {
		for _, inner := range exprs {
			out = append(out, strings.ReplaceAll(outer, "%s", inner))
		}
	}
	pats := []string{"x", "_", "1", "A", "(x)", "(A x)", "((_))"}
	for _, a := range pats {
		out = append(out, "case x of "+a+" -> 1 end", "case x of A "+a+" -> 1 end", "case x of ("+a+") -> 1 | B ("+a+") "+a+" -> 2 end")
	}
	for _, a := range []string{"int", "t", "'a", "t int 'a (t)", "int -> 'a -> t", "(t -> t) -> t int", "('a)"} {
		out = append(out, "type t 'a = A ("+a+"); 1", "type t = A int ("+a+") t | B; type u = C (t ("+a+") -> "+a+"); x")
	}
	return out
}

func TestBases(t *testing.T) {
	g := readGrammar()
	for _, s := range bases() {
		if _, _, err := checkParse(t, g, s); err != api.OK {
			t.Errorf("%q: %v", s, err)
		}
		spaced := strings.ReplaceAll(s, " ", " # ) x\n\t")
		checkParse(t, g, "\r\n"+spaced+" #")
	}
}

// TestKeysAsVars: a parameter of a type whose name is a key word is no such word.
func TestKeysAsVars(t *testing.T) {
	g := readGrammar()
	for _, s := range bases() {
		words := strings.Fields(s)
		for i, word := range words {
			if tokens, _, _ := lex.Lex(word); tokens[0].Kind == api.TokKey {
				words[i] = "'" + word
				checkParse(t, g, strings.Join(words, " "))
				words[i] = word
			}
		}
	}
	checkFault(t, "'type t = A; 1", 0, api.ErrSyntax)
	checkFault(t, "let 'rec f x = 1 in f", 4, api.ErrSyntax)
}

// TestEachTokenAtEachPlace: behind each beginning of each program each token, and the end of the text.
func TestEachTokenAtEachPlace(t *testing.T) {
	g := readGrammar()
	seen := map[string]bool{}
	for _, s := range bases() {
		tokens, _, _ := lex.Lex(s)
		l := g.begin()
		for i := range tokens {
			head := s[:tokens[i].At]
			key := strings.Join(strings.Fields(head), " ")
			if !seen[key] {
				seen[key] = true
				checkNext(t, l, strings.TrimRight(head, " "))
			}
			l.step(tokens[i])
		}
		checkNext(t, l, s)
	}
}

// checkNext holds what stands next behind the tokens that have been gone through, of which the head is the text.
func checkNext(t *testing.T, l *looks, head string) {
	t.Helper()
	for _, gap := range []string{"", " ", " \t\r\n", " # x", "#\n#"} {
		checkEnd(t, l, head+gap)
	}
	for _, word := range allTokens() {
		tokens, _, _ := lex.Lex(word)
		s := head + " " + word
		at := len(head) + 1
		if !l.can(tokens[0]) {
			checkFault(t, s, at, api.ErrSyntax)
			checkFault(t, s+" x ) end", at, api.ErrSyntax)
			checkFault(t, head+" #\n"+word+" #", at+2, api.ErrSyntax)
			continue
		}
		l.step(tokens[0])
		checkEnd(t, l, s)
		l.back()
	}
}

// checkEnd holds that the text is a program, or lacks something at its end.
func checkEnd(t *testing.T, l *looks, s string) {
	t.Helper()
	if !l.done() {
		checkFault(t, s, len(s), api.ErrSyntax)
	} else if _, at, err := Parse(s); at != 0 || err != api.OK {
		t.Errorf("Parse(%q): %d, %v", s, at, err)
	}
}

// TestShort: all texts of few tokens, as long as what stands ahead may stand.
func TestShort(t *testing.T) {
	g := readGrammar()
	words := allTokens()
	var walk func(l *looks, head string, left int)
	walk = func(l *looks, head string, left int) {
		checkEnd(t, l, head)
		for _, word := range words {
			tokens, _, _ := lex.Lex(word)
			if !l.can(tokens[0]) {
				checkFault(t, head+" "+word, len(head)+1, api.ErrSyntax)
			} else if left > 0 {
				l.step(tokens[0])
				walk(l, head+" "+word, left-1)
				l.back()
			}
		}
	}
	walk(g.begin(), "", 4)
}

// TestGrown: programs grown out of the grammar, and those with a token left out, put in, changed.
func TestGrown(t *testing.T) {
	g := readGrammar()
	r := rand.New(rand.NewSource(12))
	for range 2000 {
		room := r.Intn(60)
		words := g.grow(r, "program", &room)
		if len(words) > 150 {
			continue
		}
		checkParse(t, g, join(r, words))
		i := r.Intn(len(words))
		checkParse(t, g, join(r, slices.Delete(slices.Clone(words), i, i+1)))
		other := allTokens()[r.Intn(len(allTokens()))]
		checkParse(t, g, join(r, slices.Insert(slices.Clone(words), i, other)))
		words[i] = other
		checkParse(t, g, join(r, words))
		checkParse(t, g, join(r, words[:i]))
	}
}

func join(r *rand.Rand, words []string) string {
	gaps := []string{" ", " ", " ", "\n", "  ", " # c (\n", "\t"}
	var out strings.Builder
	for _, word := range words {
		out.WriteString(gaps[r.Intn(len(gaps))] + word)
	}
	return out.String() + []string{"", " ", "#"}[r.Intn(3)]
}

// TestLexFirst: what the tokens' errors are is told, though tokens ahead can't stand, and limits are passed.
func TestLexFirst(t *testing.T) {
	checkFault(t, ") ) ?", 4, api.ErrLex)
	checkFault(t, "fun fun 007", 8, api.ErrLex)
	checkFault(t, "= '", 2, api.ErrLex)
	checkFault(t, "in "+strings.Repeat("a", 33), 3, api.ErrLong)
	checkFault(t, strings.Repeat(")", api.MaxSource+1), 0, api.ErrLong)
	checkFault(t, strings.Repeat("?", api.MaxSource+1), 0, api.ErrLong)
	checkFault(t, strings.Repeat(")", api.MaxTokens)+" 1", api.MaxTokens+1, api.ErrMany)
	checkFault(t, strings.Repeat(")", api.MaxTokens), 0, api.ErrSyntax)
	checkFault(t, "1"+strings.Repeat(" ", api.MaxSource), 0, api.ErrLong)
	checkTree(t, "1"+strings.Repeat(" ", api.MaxSource-1), "=1@0")
	checkFault(t, strings.Repeat(" ", api.MaxSource), api.MaxSource, api.ErrSyntax)
	checkFault(t, "f"+strings.Repeat(" 1", 2000)+" ?", 4002, api.ErrLex)
	checkTree(t, strings.Repeat("a", 32), "$"+strings.Repeat("a", 32)+"@0")
	checkFault(t, "", 0, api.ErrSyntax)
	checkFault(t, "# x", 3, api.ErrSyntax)
}

// limits are texts at a limit's number, and one more.
type limit struct {
	name     string
	at, over string
	err      api.Errno
}

func limits() []limit {
	rep := strings.Repeat
	nest := func(head, inner, tail string, n int) string { return rep(head, n) + inner + rep(tail, n) }
	pattern := func(outer, n int) string {
		return rep("fun x -> ", outer) + "case x of " + nest("A(", "_", ")", n-1) + " -> 1 end"
	}
	// It has 2005 nodes, and another 2 * more + 1.
	large := func(more int) string {
		return "A" + rep(" (f"+rep(" 1", 250)+")", 4) + "(f" + rep(" 1", more) + ")"
	}
	many, deep := api.ErrMany, api.ErrDeep
	return []limit{
		{"decls", rep("type t=A;", 32) + "1", rep("type t=A;", 33) + "1", many},
		{"params", "type t 'a 'a 'b 'c = A; 1", "type t 'a 'a 'b 'c 'd = A; 1", many},
		{"params of the last", "type u = U; type t 'a 'a 'b 'c = A; 1", "type u = U; type t 'a 'a 'b 'c 'd = A; 1", many},
		{"cons", "type t = A" + rep("|A", 31) + ";1", "type t = A" + rep("|A", 32) + ";1", many},
		{"fields", "type t = A" + rep(" int", 8) + ";1", "type t = A" + rep(" int", 9) + ";1", many},
		{"fields of the last", "type t = B | A" + rep(" int", 8) + ";1", "type t = B | A" + rep(" int", 9) + ";1", many},
		{"args", "A" + rep(" 1", 8), "A" + rep(" 1", 9), many},
		{"args within", "fun x -> f (A" + rep(" 1", 8) + ")", "fun x -> f (A" + rep(" 1", 9) + ")", many},
		{"args of a pattern", "case x of A" + rep(" _", 8) + " -> 1 end", "case x of A" + rep(" _", 9) + " -> 1 end", many},
		{"args of a pattern within", "case x of B -> 1 | C (A" + rep(" _", 8) + ") -> 1 end", "case x of B -> 1 | C (A" + rep(" _", 9) + ") -> 1 end", many},
		{"size", large(21), large(21) + "1", many},
		{"size by a pattern", "case " + large(19) + " of A _ -> x end", "case " + large(19) + " of A A _ -> x end", many},
		{"depth", rep("fun x -> ", 255) + "1", rep("fun x -> ", 256) + "1", deep},
		{"depth of apps", "f" + rep(" 1", 255), "f" + rep(" 1", 256), deep},
		{"depth of sums", "1" + rep("+1", 255), "1" + rep("+1", 256), deep},
		{"depth of products", "1" + rep("*1", 255), "1" + rep("*1", 256), deep},
		{"depth of ;", rep("1;", 255) + "1", rep("1;", 256) + "1", deep},
		{"depth of lets", rep("let x=1 in ", 255) + "1", rep("let x=1 in ", 256) + "1", deep},
		{"depth of what is bound", nest("let x=", "1", " in 1", 255), nest("let x=", "1", " in 1", 256), deep},
		{"depth of ifs", rep("if 1 then 1 else ", 255) + "1", rep("if 1 then 1 else ", 256) + "1", deep},
		{"depth of cons", nest("A(", "1", ")", 255), nest("A(", "1", ")", 256), deep},
		{"depth of prints", nest("print(", "1", ")", 255), nest("print(", "1", ")", 256), deep},
		{"depth of cases", nest("case ", "1", " of _->1 end", 255), nest("case ", "1", " of _->1 end", 256), deep},
		{"depth of branches", nest("case 1 of _->", "1", " end", 255), nest("case 1 of _->", "1", " end", 256), deep},
		{"depth of a pattern", pattern(0, 255), pattern(0, 256), deep},
		{"depth of a pattern within", pattern(100, 155), pattern(100, 156), deep},
		{"depth of a pattern far within", pattern(254, 1), pattern(254, 2), deep},
		{"depth of types", "type t=A(" + rep("int->", 255) + "int);1", "type t=A(" + rep("int->", 256) + "int);1", deep},
		{"depth of names", "type t=A(" + nest("t(", "t", ")", 255) + ");1", "type t=A(" + nest("t(", "t", ")", 256) + ");1", deep},
		{"depth of the last type", "type t=A|B int(" + nest("(", "t", "->t)", 255) + ");1", "type t=A|B int(" + nest("(", "t", "->t)", 256) + ");1", deep},
	}
}

func TestLimits(t *testing.T) {
	for _, x := range limits() {
		p, at, err := Parse(x.at)
		if at != 0 || err != api.OK || !Check(p) {
			t.Errorf("%s: %d, %v, %v", x.name, at, err, Check(p))
		}
		checkFault(t, x.over, 0, x.err)
		checkFault(t, x.over+" )", len(x.over)+1, api.ErrSyntax)
		checkFault(t, x.over+" ?", len(x.over)+1, api.ErrLex)
		// The trees that are beyond a limit are read past Parse's own look at it.
		if Check(unlimited(t, x.over)) || !Check(unlimited(t, x.at)) {
			t.Errorf("%s: Check", x.name)
		}
	}
	// Brackets count for nothing.
	checkTree(t, strings.Repeat("(", 2000)+"1"+strings.Repeat(")", 2000), "=1@2000")
	checkTree(t, "type t = A"+strings.Repeat("(", 2000)+"int"+strings.Repeat(")", 2000)+";1", "type@0 t [] A(int); =1@4014")
	checkTree(t, "case 1 of "+strings.Repeat("(", 2000)+"_"+strings.Repeat(")", 2000)+"->1 end", "case@0[_@2010](=1@5 =1@4013)")
	// Depths of types and of expressions are not added, and names of types have as many arguments as one likes.
	checkParse(t, readGrammar(), "type t = A (t"+strings.Repeat(" int", 50)+"); fun x -> 1")
	for _, x := range limits() {
		if strings.HasPrefix(x.at, "type") && strings.HasSuffix(x.at, "1") && x.err == api.ErrDeep {
			if _, _, err := Parse(strings.TrimSuffix(x.at, "1") + strings.Repeat("fun x->", 255) + "1"); err != api.OK {
				t.Errorf("%s with a deep expression: %v", x.name, err)
			}
		}
	}
}

// unlimited reads a text whatever the limits of depth and number are.
func unlimited(t *testing.T, s string) api.Program {
	t.Helper()
	tokens, _, err := lex.Lex(s)
	if err != api.OK {
		t.Fatal(s)
	}
	return plainProgram(tokens)
}

// TestTwoLimits: where a limit of number and one of depth are passed at once, the first is told.
func TestTwoLimits(t *testing.T) {
	for _, a := range limits() {
		for _, b := range limits() {
			if !strings.HasSuffix(a.over, ";1") || !strings.HasPrefix(a.over, "type") || len(a.over)+len(b.over) > api.MaxSource {
				continue
			}
			s := strings.TrimSuffix(a.over, "1") + b.over
			if tokens, _, err := lex.Lex(s); err != api.OK || len(tokens) > api.MaxTokens {
				continue
			}
			checkFault(t, s, 0, min(a.err, b.err))
		}
	}
	checkFault(t, strings.Repeat("fun x -> ", 256)+"A 1 2 3 4 5 6 7 8 9", 0, api.ErrMany)
	checkFault(t, "f"+strings.Repeat(" 1", 1024), 0, api.ErrMany)
	checkFault(t, "f"+strings.Repeat(" 1", 1023), 0, api.ErrDeep)
}

// TestAnswersShareNothing: no two lists of an answer share memory, and no name is a piece of the text.
func TestAnswersShareNothing(t *testing.T) {
	s := "type t 'a 'b = A int 'a (t int 'b -> int) | B | C t; type u = D; let rec f x = case x of A (B _ 1) y -> f (C 1 2 3) | D -> print x ; y * 2 end in if f 1 then fun z -> z else A"
	p, _, err := Parse(s)
	if err != api.OK {
		t.Fatal(err)
	}
	again, _, _ := Parse(s)
	lists := append(memory(reflect.ValueOf(p)), memory(reflect.ValueOf(again))...)
	for i, a := range lists {
		for _, b := range lists[:i] {
			if a[0] < b[1] && b[0] < a[1] {
				t.Fatalf("lists share memory: %v and %v", a, b)
			}
		}
	}
	from := uintptr(unsafe.Pointer(unsafe.StringData(s)))
	walk(reflect.ValueOf(p), func(v reflect.Value) {
		if v.Kind() != reflect.String || v.Len() == 0 {
			return
		}
		at := uintptr(unsafe.Pointer(unsafe.StringData(v.String())))
		if from <= at && at < from+uintptr(len(s)) {
			t.Errorf("%q is a piece of the text", v.String())
		}
	})
}

// memory tells from where to where the lists of a value reach, their spare room as well.
func memory(v reflect.Value) [][2]uintptr {
	var out [][2]uintptr
	walk(v, func(v reflect.Value) {
		if v.Kind() == reflect.Slice && v.Cap() > 0 {
			size := v.Type().Elem().Size()
			out = append(out, [2]uintptr{v.Pointer(), v.Pointer() + uintptr(v.Cap())*size})
		}
	})
	return out
}

// walk goes through all parts of a value.
func walk(v reflect.Value, f func(reflect.Value)) {
	f(v)
	switch v.Kind() {
	case reflect.Struct:
		for i := range v.NumField() {
			walk(v.Field(i), f)
		}
	case reflect.Slice:
		for i := range v.Len() {
			walk(v.Index(i), f)
		}
	}
}

func FuzzTexts(f *testing.F) {
	for _, s := range bases() {
		f.Add(s)
	}
	g := readGrammar()
	f.Fuzz(func(t *testing.T, s string) {
		if len(s) > 300 {
			Parse(s)
			return
		}
		checkParse(t, g, s)
	})
}
