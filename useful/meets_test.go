package useful

import (
	"math"
	"testing"

	"athanor/api"
	"athanor/scope"
)

// TestMeets: each kind of pattern and values of all kinds.
func TestMeets(t *testing.T) {
	values := []string{"0", "1", "~1", "5", "Unit", "False", "True", "Nil", "Cons 1 Nil", "Cons 5 (Cons 1 Nil)", "A", "B 1", "B 5", "B (B 5)", "C A A", "C A (B 5)", "C (C A (B 1)) A", "One 1", "One (One 5)", "Two 1 5", "Two 5 1", "W", "X", "Y", "Z", "Leaf", "Node Leaf 5 Leaf", "Node Leaf 5 (Node Leaf 1 Leaf)", "Eight 1 2 3 4 5 6 7 8"}
	// What has one tag, and as many parts, is one value.
	for s, want := range map[string][]string{
		"_": values, "x": values,
		"0": {"0"}, "1": {"1"}, "~1": {"~1"}, "5": {"5"}, "6": nil,
		"Unit": {"Unit", "False", "Nil", "A", "W", "Leaf"}, "True": {"True", "X"}, "False": {"Unit", "False", "Nil", "A", "W", "Leaf"}, "X": {"True", "X"}, "Y": {"Y"}, "Z": {"Z"},
		"Cons _ _": {"Cons 1 Nil", "Cons 5 (Cons 1 Nil)"}, "Cons 1 _": {"Cons 1 Nil"}, "Cons 5 _": {"Cons 5 (Cons 1 Nil)"}, "Cons _ Nil": {"Cons 1 Nil"}, "Cons x (Cons y r)": {"Cons 5 (Cons 1 Nil)"}, "Cons 5 (Cons 1 Nil)": {"Cons 5 (Cons 1 Nil)"}, "Cons 5 (Cons 2 Nil)": nil, "Cons 1 (Cons 5 _)": nil,
		"B _": {"B 1", "B 5", "B (B 5)"}, "B 5": {"B 5"}, "B (B _)": {"B (B 5)"}, "B (B 5)": {"B (B 5)"}, "B (B 1)": nil,
		"C _ _": {"C A A", "C A (B 5)", "C (C A (B 1)) A"}, "C A _": {"C A A", "C A (B 5)"}, "C _ A": {"C A A", "C (C A (B 1)) A"}, "C A A": {"C A A"}, "C x (B y)": {"C A (B 5)"}, "C (C _ (B 1)) A": {"C (C A (B 1)) A"}, "C (C _ (B 5)) A": nil, "C Unit Nil": {"C A A"},
		"One _": {"One 1", "One (One 5)"}, "One 1": {"One 1"}, "One (One x)": {"One (One 5)"}, "Two _ _": {"Two 1 5", "Two 5 1"}, "Two 1 _": {"Two 1 5"}, "Two _ 1": {"Two 5 1"}, "Two 1 1": nil,
		"Node _ _ _": {"Node Leaf 5 Leaf", "Node Leaf 5 (Node Leaf 1 Leaf)"}, "Node _ _ (Node _ 1 _)": {"Node Leaf 5 (Node Leaf 1 Leaf)"}, "Node Leaf x Leaf": {"Node Leaf 5 Leaf"},
		"Eight 1 2 3 4 5 6 7 8": {"Eight 1 2 3 4 5 6 7 8"}, "Eight _ _ _ _ _ _ _ 8": {"Eight 1 2 3 4 5 6 7 8"}, "Eight _ _ _ _ _ _ _ 7": nil, "Eight 1 2 3 4 x 6 7 9": nil,
	} {
		met := map[string]int{}
		for _, v := range want {
			met[v] = 1
		}
		for _, v := range values {
			if got := checkMeets(t, types(), pat(s), val(v)); got != (met[v] == 1) {
				t.Errorf("%s of %s: %v", s, v, got)
			}
		}
	}
}

// TestMeetsParts: values with fewer and with more parts than the pattern, which need not have as many as the constructor.
func TestMeetsParts(t *testing.T) {
	for s, tag := range map[string]int{"Nil": 0, "Cons": 1, "A": 0, "B": 1, "C": 2, "Z": 3, "Eight": 0, "None": 1, "Two": 0} {
		for n := range 11 {
			for m := range 11 {
				v := vcon(tag)
				for i := range m {
					v.Args = append(v.Args, vint(i))
				}
				if got := checkMeets(t, types(), pcon(s, nones(n)...), v); got != (n == m) {
					t.Errorf("%s with %d of %d: %v", s, n, m, got)
				}
				for _, other := range []int{tag + 1, tag - 1, -1, 100, math.MaxInt, math.MinInt} {
					v.N = other
					if other != tag && checkMeets(t, types(), pcon(s, nones(n)...), v) {
						t.Errorf("%s with %d of %d: tag %d", s, n, m, other)
					}
				}
				// An integer is no constructor, whatever it has.
				v.Int, v.N = true, tag
				if checkMeets(t, types(), pcon(s, nones(n)...), v) || !checkMeets(t, types(), pint(tag), v) {
					t.Errorf("%s with %d of an integer with %d", s, n, m)
				}
				v.Int = false
				if checkMeets(t, types(), pint(tag), v) {
					t.Errorf("an integer of a constructor with %d", m)
				}
			}
		}
	}
	// One part of many is wrong.
	for i := range 8 {
		p, v := pcon("Eight"), vcon(0)
		for j := range 8 {
			p.Args, v.Args = append(p.Args, pint(j)), append(v.Args, vint(j))
		}
		if !checkMeets(t, types(), p, v) {
			t.Error("alike")
		}
		v.Args[i].N = 9
		if checkMeets(t, types(), p, v) {
			t.Error(i)
		}
		p.Args[i] = none
		if !checkMeets(t, types(), p, v) {
			t.Error(i)
		}
		p.Args[i] = api.Pat{}
		if checkMeets(t, types(), p, v) {
			t.Error(i)
		}
	}
}

// TestMeetsNothing: a constructor that is not there and a Kind that is none meet nothing.
func TestMeetsNothing(t *testing.T) {
	values := []api.Val{{}, vint(0), vint(1), vcon(1), vcon(-1), vcon(0, vint(1)), vcon(1, vcon(0)), vcon(1, vint(1), vcon(0))}
	bad := []api.Pat{{}, {Kind: 5}, {Kind: -1, N: 1}, {Kind: math.MaxInt, Name: "A"}, {Kind: 0, Name: "A"}, pcon("Foo"), pcon(""), pcon("a"), pcon("list"), pcon("Foo", none), pcon("Foo", none, none)}
	for i, p := range bad {
		for j, v := range values {
			if checkMeets(t, types(), p, v) {
				t.Error(i, j)
			}
			if checkMeets(t, types(), pcon("B", p), vcon(1, v)) || !checkMeets(t, types(), pcon("B", none), vcon(1, v)) {
				t.Error("in B", i, j)
			}
			if checkMeets(t, types(), pcon("C", none, p), vcon(2, v, v)) || checkMeets(t, types(), pcon("C", p, none), vcon(2, v, v)) {
				t.Error("in C", i, j)
			}
		}
	}
	for _, l := range [][]api.Decl{nil, {{}}, {{Name: "A"}}} {
		if checkMeets(t, l, pcon("A"), vcon(0)) {
			t.Error("no types")
		}
	}
}

// TestMeetsFirst: the first constructor of a name tells the tag, whatever its type and its fields are.
func TestMeetsFirst(t *testing.T) {
	l := []api.Decl{{}, {Name: "s", Cons: []api.Con{{Name: "X"}, {Name: "A", Fields: make([]api.Type, 3)}, {Name: "A"}}}, {Name: "t", Cons: []api.Con{{Name: "A"}, {Name: "X"}, {Name: "Y"}}}}
	for s, tag := range map[string]int{"X": 0, "A": 1, "Y": 2} {
		for n := range 4 {
			if got := checkMeets(t, l, pcon(s), vcon(n)); got != (n == tag) {
				t.Errorf("%s, %d: %v", s, n, got)
			}
			if got := checkMeets(t, l, pcon(s, none), vcon(n, vint(5))); got != (n == tag) {
				t.Errorf("%s _, %d: %v", s, n, got)
			}
		}
	}
}

// TestMeetsDeep: patterns and values that are very deep, or have very many parts.
func TestMeetsDeep(t *testing.T) {
	for _, n := range []int{1, 2, 256, 257, 5000, 60000} {
		p, v := chain(n, pint(7)), vint(7)
		for range n - 1 {
			v = vcon(1, v)
		}
		l := types()
		if !Meets(l, p, v) || Meets(l, chain(n, pint(8)), v) || Meets(l, pcon("B", p), v) || Meets(l, p, vcon(1, v)) {
			t.Error(n)
		}
		many := vcon(0)
		all := pcon("W")
		for i := range n {
			all.Args, many.Args = append(all.Args, pint(i)), append(many.Args, vint(i))
		}
		if !Meets(l, all, many) {
			t.Error(n)
		}
		many.Args[n-1].N--
		if Meets(l, all, many) {
			t.Error(n)
		}
	}
}

// TestCheck: what is wrong first with a program.
func TestCheck(t *testing.T) {
	for s, want := range map[string]api.Errno{
		"1": api.OK, "fun x -> x": api.OK, "fun l -> case l of Nil -> 1 | Cons _ _ -> 2 end": api.OK, "fun l -> @case l of Nil -> 1 end": api.ErrMatch,
		"@case 1 of 1 -> 1 end": api.ErrMatch, "case 1 of _ -> 1 end": api.OK, "case 1 of x -> x end": api.OK, "case 1 of 1 -> 2 | x -> x end": api.OK, "@case 1 of 1 -> 2 | Unit -> 3 | 7 -> 1 end": api.OK,
		"if 1 then 2 else 3": api.OK, "1; 2": api.OK, "print 1; if 1 < 2 then print 2 else Unit; 3": api.OK,
		// A case within: in what is looked at, in each branch; the outer ahead of those within.
		"fun x -> @case (case x of 1 -> 1 end) of 2 -> 1 end": api.ErrMatch, "fun x -> case (@case x of 1 -> 1 end) of _ -> 1 end": api.ErrMatch, "fun x -> @case (case x of _ -> 1 end) of 2 -> 1 end": api.ErrMatch,
		"fun x -> @case x of 1 -> case x of 1 -> 1 end end": api.ErrMatch, "fun x -> case x of 1 -> @case x of 1 -> 1 end | _ -> case x of 1 -> 1 end end": api.ErrMatch, "fun x -> case x of 1 -> case x of _ -> 1 end | _ -> @case x of 1 -> 1 end end": api.ErrMatch, "fun x -> case x of 1 -> case x of _ -> 1 end | _ -> case x of y -> 1 end end": api.OK,
		"case (case (@case 1 of 1 -> 1 end) of _ -> 1 end) of _ -> 1 end": api.ErrMatch, "case (case (case 1 of _ -> 1 end) of _ -> 1 end) of _ -> @case 1 of 2 -> 1 end end": api.ErrMatch,
		"case (@case 1 of 1 -> 1 end) of _ -> case 1 of 1 -> 1 end end": api.ErrMatch,
		// Beside one another.
		"(@case 1 of 1 -> 1 end) + (case 1 of 1 -> 1 end)": api.ErrMatch, "(case 1 of _ -> 1 end) + (@case 1 of 1 -> 1 end)": api.ErrMatch, "Cons (@case 1 of 1 -> 1 end) (case 1 of 2 -> Nil end)": api.ErrMatch,
		"(@case 1 of 1 -> 1 end) (case 1 of 1 -> 1 end)": api.ErrMatch, "let x = @case 1 of 1 -> 1 end in case x of 1 -> 1 end": api.ErrMatch, "let x = case 1 of _ -> 1 end in @case x of 1 -> 1 end": api.ErrMatch,
		"let rec f x = @case x of 1 -> 1 end in case f of 1 -> 1 end": api.ErrMatch, "let rec f x = case x of _ -> 1 end in @case f of 1 -> 1 end": api.ErrMatch, "print (@case 1 of 1 -> 1 end)": api.ErrMatch, "if @case 1 of 1 -> True end then 1 else case 1 of 1 -> 1 end": api.ErrMatch,
		"if 1 then @case 1 of 1 -> 1 end else case 1 of 1 -> 1 end": api.ErrMatch, "if 1 then 1 else @case 1 of 1 -> 1 end": api.ErrMatch, "(@case 1 of 1 -> 1 end); case 1 of 1 -> 1 end": api.ErrMatch, "1; @case 1 of 1 -> 1 end": api.ErrMatch,
		// An idle row is no fault.
		"case 1 of _ -> 1 | 1 -> 2 | x -> 3 end": api.OK, "fun l -> case l of Nil -> 1 | Nil -> 2 | Cons _ _ -> 3 | Cons 1 _ -> 4 end": api.OK, "fun l -> @case l of Cons 1 _ -> 1 | Cons 1 _ -> 2 | Nil -> 3 end": api.ErrMatch,
		// What is wrong with names goes ahead of any other, wherever it stands.
		"(case 1 of 1 -> 1 end) @y": api.ErrScope, "fun x -> @y": api.ErrScope, "case 1 of 1 -> @y end": api.ErrScope, "case 1 of @Foo -> 1 end": api.ErrScope, "case 1 of 1 -> 1 | @Cons _ -> 1 end": api.ErrScope, "case 1 of Cons x @x -> 1 end": api.ErrScope, "@type t = U | U; case 1 of 1 -> 1 end": api.ErrDecl,
		// Types of the program's own.
		"type t = U | V t; fun l -> case l of U -> 1 | V _ -> 2 end": api.OK, "type t = U | V t; fun l -> @case l of V _ -> 1 end": api.ErrMatch, "type t = U | V t; fun l -> case l of U -> 1 | V (V _) -> 2 | V U -> 3 end": api.OK, "type t = U | V t; fun l -> @case l of U -> 1 | V (V U) -> 2 | V U -> 3 end": api.ErrMatch,
		"type t = U; type s = V t; fun l -> case l of V U -> 1 end": api.OK, "type t 'a = U 'a | V (t 'a) 'a; fun l -> case l of U Nil -> 1 | V _ Nil -> 2 | U (Cons _ _) -> 3 | V (U _) _ -> 4 | V _ (Cons _ _) -> 5 end": api.OK,
		// Types are not asked for.
		"@case 1 of True -> 1 end": api.ErrMatch, "case 1 of True -> 1 | False -> 2 | 3 -> 4 end": api.OK, "@case (fun x -> x) of Nil -> 1 | True -> 2 end": api.ErrMatch,
	} {
		if want == api.OK {
			s, _ = marked(s)
		}
		s, at := marked(s)
		if got := checkCheck(t, mustRead(s)); got != (api.Fault{Code: want, At: at}) {
			t.Errorf("%s: %v, not %v at %d", s, got, want, at)
		}
	}
	if got := checkCheck(t, api.Program{}); got != (api.Fault{Code: api.ErrArg}) {
		t.Error(got)
	}
}

// TestCheckOdd: what did not come of parse is ErrArg at 0, though a case in it leaves values.
func TestCheckOdd(t *testing.T) {
	p := mustRead("case 1 of 1 -> 1 end")
	p.Main.At = 7
	if got := checkCheck(t, p); got != (api.Fault{Code: api.ErrMatch, At: 7}) {
		t.Error(got)
	}
	for _, at := range []int{-1, math.MaxInt, math.MinInt} {
		p.Main.At = at
		if got := checkCheck(t, p); got != (api.Fault{Code: api.ErrMatch, At: at}) {
			t.Error(got)
		}
	}
	for _, change := range []func(e *api.Expr){
		func(e *api.Expr) { e.Kind = 0 }, func(e *api.Expr) { e.Kind = 11 }, func(e *api.Expr) { e.Pats = nil }, func(e *api.Expr) { e.Args = nil }, func(e *api.Expr) { e.Name = "x" },
		func(e *api.Expr) { e.Pats[0].Kind = 0 }, func(e *api.Expr) { e.Pats[0].Kind = 5 }, func(e *api.Expr) { e.Pats[0].Args = nones(1) }, func(e *api.Expr) { e.Args[1].Kind = 99 },
	} {
		p := mustRead("case 1 of 1 -> 1 end")
		p.Main.At = 7
		change(&p.Main)
		if got := checkCheck(t, p); got != (api.Fault{Code: api.ErrArg}) {
			t.Error(got)
		}
	}
}

// TestCheckMany: a case that takes too many steps, and what stands ahead of it, around it and in it.
func TestCheckMany(t *testing.T) {
	t.Parallel()
	decl := "type p 'a 'b = P 'a 'b; "
	var branches string
	n := 15
	for _, r := range flags(n) {
		s := patText(r[n-1])
		for i := n - 2; i >= 0; i-- {
			s = "P (" + patText(r[i]) + ") (" + s + ")"
		}
		branches += " | " + s + " -> 2"
	}
	if all, err := Exhaustive(scope.All(mustRead(decl+"1")), mustRead(decl+"case 1 of "+branches[3:]+" end").Main.Pats); all || err != api.ErrMany {
		t.Fatal(all, err)
	}
	many := "case 1 of " + branches[3:] + " end"
	for s, want := range map[string]api.Errno{
		"@" + many: api.ErrMany, "fun l -> @" + many: api.ErrMany, "@case 1 of 1 -> " + many + " end": api.ErrMatch, "case (@" + many + ") of 1 -> 1 | _ -> case 1 of 1 -> 1 end end": api.ErrMany,
		"(@" + many + ") + (case 1 of 1 -> 1 end)": api.ErrMany, "(@case 1 of 1 -> 1 end) + (" + many + ")": api.ErrMatch, "let x = case 1 of x -> 1 end in @" + many: api.ErrMany, "(" + many + ") @y": api.ErrScope,
		// A row that meets all, behind them, changes nothing of the steps.
		"@case (case 1 of 1 -> 1 end) of " + branches[3:] + " | _ -> 1 end": api.ErrMany,
	} {
		s, at := marked(s)
		got := Check(mustRead(decl + s))
		if got != (api.Fault{Code: want, At: at + len(decl)}) {
			t.Errorf("%s: %v", brief(s), got)
		}
	}
}
