package useful

import (
	"slices"
	"testing"

	"athanor/api"
)

// TestNoColumns: true, if there are no rows, else false.
func TestNoColumns(t *testing.T) {
	for n := range 4 {
		for _, l := range [][]api.Decl{nil, {}, types()} {
			if got, err := checkUseful(t, l, make([][]api.Pat, n), nil); got != (n == 0) || err != api.OK {
				t.Errorf("%d rows: %v, %v", n, got, err)
			}
			if got, err := checkUseful(t, l, slices.Repeat([][]api.Pat{{}}, n), []api.Pat{}); got != (n == 0) || err != api.OK {
				t.Errorf("%d rows: %v, %v", n, got, err)
			}
		}
	}
}

// TestFirsts: each kind of first of the row against each kind of first of one of the rows.
func TestFirsts(t *testing.T) {
	for _, x := range []struct {
		row, of string
		want    bool
	}{
		{"_", "_", false}, {"_", "x", false}, {"_", "1", true}, {"_", "A", true}, {"_", "B _", true}, {"_", "Unit", false}, {"_", "One _", false}, {"_", "One 1", true},
		{"x", "_", false}, {"x", "x", false}, {"x", "y", false}, {"x", "1", true}, {"x", "A", true}, {"x", "Unit", false}, {"x", "Two _ x", false}, {"x", "Two A _", true},
		{"1", "_", false}, {"1", "x", false}, {"1", "1", false}, {"1", "2", true}, {"1", "~1", true}, {"1", "A", true}, {"1", "Unit", true}, {"0", "A", true}, {"0", "0", false},
		{"A", "_", false}, {"A", "x", false}, {"A", "0", true}, {"A", "A", false}, {"A", "W", true}, {"A", "Nil", true}, {"A", "B _", true}, {"A", "B 1", true},
		{"B 1", "_", false}, {"B 1", "x", false}, {"B 1", "1", true}, {"B 1", "B 1", false}, {"B 1", "B 2", true}, {"B 1", "B _", false}, {"B 1", "B x", false}, {"B 1", "A", true}, {"B 1", "C _ _", true}, {"B 1", "One 1", true},
		{"B _", "B _", false}, {"B x", "B _", false}, {"B _", "B 1", true}, {"B _", "x", false}, {"B x", "C x x", true},
		{"C A _", "C _ A", true}, {"C A A", "C _ A", false}, {"C A A", "C A _", false}, {"C _ _", "C A _", true}, {"C _ _", "C _ _", false}, {"C A A", "_", false}, {"C A (B 1)", "C A (B 2)", true}, {"C A (B 1)", "C A (B _)", false},
		{"Unit", "Unit", false}, {"Unit", "_", false}, {"Unit", "1", true}, {"Unit", "True", true},
	} {
		wantUseful(t, "", x.row, true)
		wantUseful(t, x.of, x.row, x.want)
		// More of them is no more, and what stands behind is asked.
		wantUseful(t, x.of+" | "+x.of, x.row, x.want)
		wantUseful(t, x.of+", A", x.row+", A", x.want)
		wantUseful(t, x.of+", A", x.row+", W", true)
		wantUseful(t, x.of+", A", x.row+", _", true)
		wantUseful(t, "A, "+x.of, "A, "+x.row, x.want)
		wantUseful(t, "A, "+x.of, "W, "+x.row, true)
		wantUseful(t, "_, "+x.of, "1, "+x.row, x.want)
		wantUseful(t, "1, "+x.of, "_, "+x.row, true)
		wantUseful(t, "One ("+x.of+")", "One ("+x.row+")", x.want)
		wantUseful(t, "C _ (C ("+x.of+") A)", "C A (C ("+x.row+") A)", x.want)
		wantUseful(t, "C _ (C ("+x.of+") A), 3", "C A (C ("+x.row+") A), 3", x.want)
		wantUseful(t, "C _ (C ("+x.of+") A), 3", "C A (C ("+x.row+") A), 4", true)
	}
}

// TestColumns: rows and a row of one, two and several columns.
func TestColumns(t *testing.T) {
	for _, x := range []struct {
		all, one string
		want     bool
	}{
		{"True | False", "_", false}, {"True", "_", true}, {"False", "x", true}, {"True | False", "True", false}, {"False | True | False", "x", false},
		{"True, True | False, False", "_, _", true}, {"True, _ | False, _", "_, _", false}, {"_, True | _, False", "_, _", false}, {"True, True | False, True", "_, True", false}, {"True, True | False, True", "_, _", true},
		{"True, True | True, False | False, True", "_, _", true}, {"True, True | True, False | False, True", "True, _", false}, {"True, True | True, False | False, True", "False, _", true}, {"True, True | True, False | False, True | False, False", "_, _", false},
		{"True, _ | _, True | False, False", "_, _", false}, {"True, _ | _, True", "_, False", true}, {"True, _ | _, True", "True, False", false},
		{"1, A | 2, A", "_, A", true}, {"1, A | _, A", "_, A", false}, {"1, A | _, B _", "1, _", true}, {"1, A | _, B _ | 1, C _ _", "1, _", false}, {"1, A | _, B _ | 1, C _ _", "2, _", true},
		{"A, 1 | B _, 1 | C _ _, 1", "_, 1", false}, {"A, 1 | B _, 1 | C _ _, 1", "_, 2", true}, {"A, 1 | B _, 1 | C _ _, 2", "_, 1", true}, {"A, 1 | B _, _ | C _ _, 1", "_, 1", false},
		{"Nil, Nil | _, Cons _ _ | Cons _ _, _", "_, _", false}, {"Nil, Nil | _, Cons _ Nil | Cons _ _, _", "_, _", true}, {"Nil, _ | _, Nil", "Cons _ _, Cons _ _", true}, {"Nil, _ | _, Nil | Cons _ _, Cons _ _", "_, _", false},
		{"W, W, W, W | X, X, X, X", "_, _, _, _", true}, {"W, _, _, _ | _, W, _, _ | _, _, W, _ | _, _, _, W", "X, Y, Z, _", true}, {"W, _, _, _ | _, W, _, _ | _, _, W, _ | _, _, _, W", "X, Y, Z, W", false},
		{"True, True, True, True, True | False, _, _, _, _ | _, False, _, _, _ | _, _, False, _, _ | _, _, _, False, _ | _, _, _, _, False", "_, _, _, _, _", false}, {"True, True, True, True, True | False, _, _, _, _ | _, False, _, _, _ | _, _, _, False, _ | _, _, _, _, False", "_, _, _, _, _", true},
		{"Two _ _, Two _ _", "_, _", false}, {"Two True _, Two _ _ | Two _ _, Two _ True | Two False _, Two _ False", "_, _", false}, {"Two True _, Two _ _ | Two _ _, Two _ True", "_, _", true},
		{"_, 1, _ | _, 2, _", "_, 3, _", true}, {"_, 1, _ | _, 2, _", "_, 2, _", false}, {"_, 1, _ | _, 2, _", "_, x, _", true},
	} {
		wantUseful(t, x.all, x.one, x.want)
	}
}

// TestTypes: all of a type's constructors stand there, all but one, one of several.
func TestTypes(t *testing.T) {
	for _, l := range [][]string{{"Unit"}, {"True", "False"}, {"Nil", "Cons _ _"}, {"A", "B _", "C _ _"}, {"One _"}, {"Two _ _"}, {"W", "X", "Y", "Z"}, {"Leaf", "Node _ _ _"}, {"Eight _ _ _ _ _ _ _ _", "None"}} {
		for mask := range 1 << len(l) {
			var stand []api.Pat
			for i, s := range l {
				if mask&(1<<i) != 0 {
					stand = append(stand, pat(s))
				}
			}
			for range 2 {
				if got, err := checkColumn(t, types(), stand); got != (mask == 1<<len(l)-1) || err != api.OK {
					t.Errorf("%s: %v, %v", patTexts(stand), got, err)
				}
				slices.Reverse(stand)
			}
			for i, s := range l {
				if got, err := checkUseful(t, types(), each(stand), row(s)); got != (mask&(1<<i) == 0) || err != api.OK {
					t.Errorf("%s : %s: %v, %v", patTexts(stand), s, got, err)
				}
			}
			// One that meets any behind them meets what is left, if any is.
			if idle, err := checkIdle(t, types(), append(stand, pvar("x"))); (len(idle) == 1) != (mask == 1<<len(l)-1) || err != api.OK {
				t.Errorf("%s, x: %v, %v", patTexts(stand), idle, err)
			}
			// And one more ahead makes no more.
			if got, _ := checkColumn(t, types(), slices.Concat(stand[:min(1, len(stand))], stand)); got != (mask == 1<<len(l)-1) {
				t.Errorf("%s: %v", patTexts(stand), got)
			}
		}
	}
}

// TestKindsBeside: of patterns whose values can't be of one type, U is as said of any.
func TestKindsBeside(t *testing.T) {
	for s, want := range map[string]bool{
		"1 | True | False": true, "True | 1 | False": true, "True | False | 1": true, "1 | True": false, "1 | 2 | Unit": true, "1 | A | B _": false,
		// The type is that of the first one.
		"True | W | X | Y | Z": false, "W | True | X | Y | Z": true, "W | True | False": false, "True | W | False": true, "1 | True | W | False": true, "W | 1 | True | X | Y | Z": true,
		"True | W | X | Y | Z | _": true, "Nil | True | Cons _ _": true, "Nil | True | False": false, "A | Unit": false, "Unit | A": true,
		"One True | One 1": false, "One True | One 1 | One False": true, "One 1 | One True | One W | One False": true, "Two True 1 | Two False True | Two _ False": false, "Two True 1 | Two False True | Two _ False | Two _ _": true,
	} {
		wantExhaustive(t, s, want)
	}
	wantUseful(t, "True, 1 | W, 2", "W, 2", false)
	wantUseful(t, "True, 1 | W, 2", "W, _", true)
	wantUseful(t, "True, 1 | W, 2 | False, 1", "_, 1", false)
	wantUseful(t, "W, 2 | True, 1 | False, 1", "_, 1", true)
	wantUseful(t, "W, 2 | True, 1 | False, 1", "True, 1", false)
}

// TestExhaustive: no rows, one that meets all, and patterns that meet all together.
func TestExhaustive(t *testing.T) {
	for s, want := range map[string]bool{
		"": false, "_": true, "x": true, "_ | _": true, "1 | _": true, "_ | 1": true, "1": false, "0 | 1 | 2 | ~1": false, "1 | x": true,
		"Nil | Cons _ _": true, "Nil | Cons x Nil": false, "1 | 2": false, "_ | Nil": true, "Cons _ _ | Nil": true, "Cons x y | Nil": true, "Nil | Cons 1 _": false, "Nil | Cons 1 _ | Cons _ _": true,
		"Nil | Cons x Nil | Cons x (Cons y z)": true, "Nil | Cons x Nil | Cons x (Cons y Nil)": false, "Nil | Cons x Nil | Cons x (Cons y Nil) | Cons x (Cons y (Cons z r))": true,
		"Cons True Nil | Cons False _ | Cons True (Cons _ _) | Nil": true, "Cons True Nil | Cons False _ | Nil": false, "Cons True Nil | Cons False Nil | Cons _ (Cons _ _) | Nil": true, "Cons True _ | Cons _ Nil | Cons False (Cons True _) | Cons False (Cons False _) | Nil": true,
		"One _": true, "One 1": false, "One True | One False": true, "One (One (One _))": true, "One (One (One True))": false, "One (One (One True)) | One (One (One False))": true, "One (One (One True)) | One (One _)": true,
		"Two True _ | Two _ True": false, "Two True _ | Two _ True | Two False False": true, "Two Unit Unit": true, "Two Unit (Two Unit True) | Two Unit (Two Unit False)": true, "Two 1 _ | Two _ 1": false, "Two 1 _ | Two _ 1 | Two x y": true,
		"C A _ | C _ A | C (B _) (B 1) | C (C _ _) (B _) | C _ (C _ _) | A | B _": false, "C A _ | C _ A | C (B _) (B _) | C (C _ _) (B _) | C _ (C _ _) | A | B _": true,
		"Leaf | Node Leaf _ _ | Node (Node _ _ _) 1 _ | Node _ _ Leaf | Node _ _ (Node _ 2 _)": false, "Leaf | Node Leaf _ _ | Node _ _ Leaf | Node (Node _ _ _) _ (Node _ _ _)": true,
		"None | Eight 1 2 3 4 5 6 7 8": false, "None | Eight _ _ _ _ _ _ _ _": true, "None | Eight _ _ _ 4 _ _ _ _ | Eight _ _ _ _ _ _ _ x": true,
	} {
		wantExhaustive(t, s, want)
		// The rows in another order meet the same.
		l := pats(s)
		slices.Reverse(l)
		if got, err := checkColumn(t, types(), l); got != want || err != api.OK {
			t.Errorf("%s, from behind: %v, %v", s, got, err)
		}
		if got, err := checkUseful(t, types(), each(pats(s)), []api.Pat{pvar("x")}); got == want || err != api.OK {
			t.Errorf("%s : x: %v, %v", s, got, err)
		}
	}
}

// TestIdle: the first row, rows that are idle by several ahead together, rows behind an idle one.
func TestIdle(t *testing.T) {
	wantIdle(t, "")
	wantIdle(t, "_")
	wantIdle(t, "1")
	wantIdle(t, "Nil")
	wantIdle(t, "_ | Nil", 1)
	wantIdle(t, "_ | _ | x | 1", 1, 2, 3)
	wantIdle(t, "Nil | Nil | Cons _ _ | x", 1, 3)
	wantIdle(t, "1 | 2 | 1 | _", 2)
	wantIdle(t, "1 | 2 | 3 | x | 4 | y", 4, 5)
	wantIdle(t, "C A _ | C A A | C _ A", 1)
	wantIdle(t, "C A _ | C _ A | C A A | C A (B _) | C (B _) A | C (B _) (B _)", 2, 3, 4)
	wantIdle(t, "True | False | _", 2)
	wantIdle(t, "True | False | True | False", 2, 3)
	wantIdle(t, "Two True _ | Two False True | Two _ True | Two _ False", 2)
	wantIdle(t, "Two True _ | Two False True | Two _ True | Two _ False | Two _ _", 2, 4)
	wantIdle(t, "Two True True | Two True False | Two True _ | Two False _", 2)
	wantIdle(t, "Two True _ | Two _ True | Two True True | Two False False | Two False _", 2, 4)
	wantIdle(t, "Nil | Cons x Nil | Cons 1 (Cons y r) | Cons 2 Nil | Cons 1 Nil | Cons _ (Cons _ _) | _", 3, 4, 6)
	wantIdle(t, "Unit | Unit | Unit", 1, 2)
	wantIdle(t, "One 1 | One 2 | One 1 | One x | One 3", 2, 4)
	// An idle one changes nothing of what the others meet.
	wantIdle(t, "Nil | Nil | Nil | Cons 1 _ | Cons 1 Nil | Cons _ _ | Cons 2 _ | Nil", 1, 2, 4, 6, 7)
	wantIdle(t, "A | A | B 1 | B 1 | B 2 | C _ _ | B _ | A", 1, 3, 7)
	wantIdle(t, "W | X | Y | Z | _ | W | 1", 4, 5, 6)
	wantIdle(t, "1 | W | X | Y | Z | _ | 2 | 1", 5, 6, 7)
	wantIdle(t, "1 | W | X | Y | Z | 2 | 1 | _ | 3", 6, 7, 8)
}

// TestDepths: two patterns in others that are so deep.
func TestDepths(t *testing.T) {
	in := func(p api.Pat, deep int) api.Pat {
		for i := range deep {
			switch i % 5 {
			case 1:
				p = pcon("Two", pvar("x"), p)
			case 3:
				p = pcon("Two", p, none)
			default:
				p = pcon("One", p)
			}
		}
		return p
	}
	for _, deep := range []int{0, 1, 2, 3, 4, 5, 10, 50, 200, 255} {
		for _, x := range []struct {
			s    string
			want bool
		}{{"True | False", true}, {"True", false}, {"_", true}, {"1", false}, {"W | X | Y | Z", true}, {"W | X | Z", false}, {"Unit", true}, {"True | 1", false}} {
			var l []api.Pat
			for _, p := range pats(x.s) {
				l = append(l, in(p, deep))
			}
			if got, err := checkColumn(t, types(), l); got != x.want || err != api.OK {
				t.Errorf("%s, %d deep: %v, %v", x.s, deep, got, err)
			}
			for i := range l {
				if got, err := checkUseful(t, types(), each(slices.Delete(slices.Clone(l), i, i+1)), l[i:i+1]); !got || err != api.OK {
					t.Errorf("%s, %d deep, without %d: %v, %v", x.s, deep, i, got, err)
				}
				if got, err := checkUseful(t, types(), each(l), l[i:i+1]); got || err != api.OK {
					t.Errorf("%s, %d deep, with %d: %v, %v", x.s, deep, i, got, err)
				}
			}
		}
	}
}

// TestExamples is the chapter's.
func TestExamples(t *testing.T) {
	wantExhaustive(t, "Nil | Cons _ _", true)
	wantExhaustive(t, "Nil | Cons x Nil", false)
	wantExhaustive(t, "1 | 2", false)
	wantIdle(t, "_ | Nil", 1)
}
