package infer

import (
	"fmt"
	"math/rand"
	"slices"
	"strings"
	"testing"

	"athanor/api"
	"athanor/parse"
	"athanor/show"
)

// alike tells whether two types are, where no list and an empty one are one.
func alike(a, b api.Type) bool {
	return a.Kind == b.Kind && a.Name == b.Name && a.N == b.N && slices.EqualFunc(a.Args, b.Args, alike)
}

func isZero(t api.Type) bool {
	return t.Kind == 0 && t.Name == "" && t.N == 0 && len(t.Args) == 0
}

// text is a type as it is written: within another one, which it is behind the arrow (2), ahead of it (1), or an argument (0).
func text(t api.Type, where int) string {
	var s string
	loose := 0
	switch t.Kind {
	case api.TyInt:
		return "int"
	case api.TyVar:
		return "'" + t.Name
	case api.TyFun:
		s, loose = text(t.Args[0], 1)+" -> "+text(t.Args[1], 2), 2
	default:
		s = t.Name
		for _, x := range t.Args {
			s, loose = s+" "+text(x, 0), 1
		}
	}
	if where < loose {
		return "(" + s + ")"
	}
	return s
}

func depth(t api.Type) int {
	most := 0
	for _, x := range t.Args {
		most = max(most, depth(x))
	}
	return most + 1
}

// shown is what Text must tell of a type.
func shown(t api.Type) (string, api.Fault) {
	if depth(t) > api.MaxDepth {
		return "", api.Fault{Code: api.ErrArg}
	}
	s := text(t, 2)
	if len(s) > api.MaxSource {
		return "", api.Fault{Code: api.ErrLong}
	}
	return s, api.Fault{}
}

// brief is a program as it is written, or as it lies there, cut short.
func brief(p api.Program) string {
	s, err := show.Program(p)
	if err != api.OK {
		s = fmt.Sprint(p)
	}
	if len(s) > 2000 {
		s = s[:2000] + " .."
	}
	return s
}

// checkAll holds what is told of a program against the second reading, and tells it: the type's text, and the fault.
func checkAll(t *testing.T, p api.Program) (string, api.Fault) {
	t.Helper()
	got, fault := Infer(p)
	want, wantFault := plainInfer(p)
	if fault != wantFault || !alike(got, want) {
		t.Fatalf("%s\nis %.300s, %v, not %.300s, %v", brief(p), text(got, 2), fault, text(want, 2), wantFault)
	}
	s, textFault := Text(p)
	if fault != (api.Fault{}) {
		if !isZero(got) || s != "" || textFault != fault {
			t.Fatalf("%s\nis %v, but %.300s, %.300s, %v", brief(p), fault, text(got, 2), s, textFault)
		}
		return "", fault
	}
	if wantText, wantFault := shown(got); s != wantText || textFault != wantFault {
		t.Fatalf("%s\nis shown as %.300s, %v, not %.300s, %v", brief(p), s, textFault, wantText, wantFault)
	}
	return text(got, 2), fault
}

// wantType holds the program against its type's text.
func wantType(t *testing.T, s, want string) {
	t.Helper()
	p := mustRead(s)
	checkExpanded(t, rand.New(rand.NewSource(int64(len(s)))), p)
	if got, fault := checkAll(t, p); fault != (api.Fault{}) || got != want {
		t.Errorf("%.2000s\nis %.300s, %v, not %.300s", s, got, fault, want)
	}
}

// marked is a text without the @ in it, and where that stood.
func marked(s string) (string, int) {
	at := strings.Index(s, "@")
	if at < 0 {
		return s, 0
	}
	return s[:at] + s[at+1:], at
}

// wantFault holds the program against its fault, the place of which is marked in the text.
func wantFault(t *testing.T, s string, want api.Errno) {
	t.Helper()
	s, at := marked(s)
	p := mustRead(s)
	checkExpanded(t, rand.New(rand.NewSource(int64(len(s)))), p)
	if _, fault := checkAll(t, p); fault != (api.Fault{Code: want, At: at}) {
		t.Errorf("%.2000s\nis %v, not %v at %d", s, fault, want, at)
	}
}

// table asks for lines of a program and its type, with ":: " between; the program may be told a fault instead: "!occurs", with an @ at its place.
func table(t *testing.T, lines ...string) {
	t.Helper()
	for _, line := range lines {
		s, want, ok := strings.Cut(line, " :: ")
		if !ok {
			t.Fatal("no type: " + line)
		}
		if err, bad := strings.CutPrefix(want, "!"); bad {
			wantFault(t, s, errnos[err])
			continue
		}
		wantType(t, s, want)
	}
}

var errnos = map[string]api.Errno{"arg": api.ErrArg, "many": api.ErrMany, "scope": api.ErrScope, "decl": api.ErrDecl, "unify": api.ErrUnify, "occurs": api.ErrOccurs, "main": api.ErrMain}

// Small things to make others of.
var (
	one  = api.Expr{Kind: api.ExInt, N: 1}
	none = api.Pat{Kind: api.PatAny}
)

func name(s string) api.Expr { return api.Expr{Kind: api.ExVar, Name: s} }

func fun(s string, body api.Expr) api.Expr {
	return api.Expr{Kind: api.ExFun, Name: s, Args: []api.Expr{body}}
}

func app(f, a api.Expr) api.Expr { return api.Expr{Kind: api.ExApp, Args: []api.Expr{f, a}} }

func let(s string, a, b api.Expr) api.Expr {
	return api.Expr{Kind: api.ExLet, Name: s, Args: []api.Expr{a, b}}
}

func rec(s, param string, a, b api.Expr) api.Expr {
	return api.Expr{Kind: api.ExRec, Name: s, Param: param, Args: []api.Expr{a, b}}
}

func con(s string, args ...api.Expr) api.Expr {
	return api.Expr{Kind: api.ExCon, Name: s, Args: args}
}

func prim(sign string, a, b api.Expr) api.Expr {
	return api.Expr{Kind: api.ExPrim, Name: sign, Args: []api.Expr{a, b}}
}

func printed(a api.Expr) api.Expr { return api.Expr{Kind: api.ExPrint, Args: []api.Expr{a}} }

// cased is a case; each pattern has the branch at its place.
func cased(of api.Expr, pats []api.Pat, branches ...api.Expr) api.Expr {
	return api.Expr{Kind: api.ExCase, Args: append([]api.Expr{of}, branches...), Pats: pats}
}

func pvar(s string) api.Pat { return api.Pat{Kind: api.PatVar, Name: s} }

func pint(n int) api.Pat { return api.Pat{Kind: api.PatInt, N: n} }

func pcon(s string, args ...api.Pat) api.Pat {
	return api.Pat{Kind: api.PatCon, Name: s, Args: args}
}

func at(place int, e api.Expr) api.Expr {
	e.At = place
	return e
}

func patAt(place int, p api.Pat) api.Pat {
	p.At = place
	return p
}

// samples is programs of all kinds, some of them with a fault.
func samples() []string {
	return []string{
		"fun l -> l", "fun l -> Nil", "1", "fun x -> x x", "fun l -> fun x -> x", "fun l -> y", "type t = A | A; 1",
		"let id = fun x -> x in fun l -> id (id l)", "let rec f x = f x in f", "let rec len l = case l of Nil -> 0 | Cons _ r -> 1 + len r end in len",
		"type p 'a 'b = P 'a 'b; let d = fun x -> P x x in fun l -> P (d 1) (d (d l))", "type p 'a 'b = P 'a 'b | Q ('a -> 'b) (list (p 'b 'a)); fun l -> P Nil (Cons l Nil)",
		"let rec map f = fun l -> case l of Nil -> Nil | Cons x r -> Cons (f x) (map f r) end in fun l -> map (fun x -> if x < 1 then print x else Unit) l",
		"fun l -> case l of Cons 1 (Cons x _) -> print x; Cons (x == 2) Nil | _ -> Nil end", "fun l -> 1 2", "fun l -> print Nil", "fun l -> case l of Nil -> 1 | True -> 2 end", "fun f -> fun x -> (fun i -> i i) f",
		"type t 'a 'b 'c 'd = T (list 'd) (t 'b 'c 'd 'a) | E; fun l -> T Nil E", "fun l -> let f = fun x -> Cons l x in f (f Nil)",
		doubling(9, "fun l -> x9"), doubling(10, "fun l -> x10"),
	}
}

// doubling is a program whose x1, x2 .. are pairs of the one ahead.
func doubling(n int, s string) string {
	var b strings.Builder
	b.WriteString("type p 'a 'b = P 'a 'b; let x0 = 1 in ")
	for i := range n {
		fmt.Fprintf(&b, "let x%d = P x%d x%d in ", i+1, i, i)
	}
	return b.String() + s
}

func TestSamples(t *testing.T) {
	for _, s := range samples() {
		checkAll(t, mustRead(s))
	}
	// Of a text that is refused there is an empty program.
	p, _, _ := parse.Parse("fun x ->")
	if _, fault := checkAll(t, p); fault != (api.Fault{Code: api.ErrArg}) {
		t.Error(fault)
	}
}
