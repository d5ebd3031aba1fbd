package useful

import (
	"fmt"
	"slices"
	"strings"
	"testing"

	"athanor/api"
	"athanor/scope"
	"athanor/show"
)

// typesText is types that most tests have beside those of every program.
const typesText = "type t = A | B int | C t t; type one 'a = One 'a; type two 'a 'b = Two 'a 'b; type four = W | X | Y | Z; type tree 'a = Leaf | Node (tree 'a) 'a (tree 'a); type eight = Eight int int int int int int int int | None; "

// types is those of every program, and these.
func types() []api.Decl { return scope.All(mustRead(typesText + "1")) }

// Small things to make others of.
var none = api.Pat{Kind: api.PatAny}

func pvar(s string) api.Pat { return api.Pat{Kind: api.PatVar, Name: s} }

func pint(n int) api.Pat { return api.Pat{Kind: api.PatInt, N: n} }

func pcon(s string, args ...api.Pat) api.Pat {
	return api.Pat{Kind: api.PatCon, Name: s, Args: args}
}

func vint(n int) api.Val { return api.Val{Int: true, N: n} }

func vcon(tag int, args ...api.Val) api.Val { return api.Val{N: tag, Args: args} }

// anys of some length.
func nones(n int) []api.Pat { return slices.Repeat([]api.Pat{none}, n) }

// pat is a pattern's text, read.
func pat(s string) api.Pat {
	return mustRead("case 1 of " + s + " -> 1 end").Main.Pats[0]
}

// row is patterns with ", " between; none, if there is no text.
func row(s string) []api.Pat {
	var out []api.Pat
	for _, x := range strings.Split(s, ", ") {
		if s != "" {
			out = append(out, pat(x))
		}
	}
	return out
}

// rows is rows with " | " between; none, if there is no text.
func rows(s string) [][]api.Pat {
	var out [][]api.Pat
	for _, x := range strings.Split(s, " | ") {
		if s != "" {
			out = append(out, row(x))
		}
	}
	return out
}

// pats is patterns with " | " between.
func pats(s string) []api.Pat {
	return slices.Concat(rows(s)...)
}

// val is the value of a text.
func val(s string) api.Val { return valueOf(mustRead(s).Main) }

func valueOf(e api.Expr) api.Val {
	if e.Kind == api.ExInt {
		return vint(e.N)
	}
	_, tag, ok := scope.Find(types(), e.Name)
	if !ok {
		panic(e.Name)
	}
	v := vcon(tag)
	for _, x := range e.Args {
		v.Args = append(v.Args, valueOf(x))
	}
	return v
}

// brief is what was given, cut short.
func brief(l ...any) string {
	s := fmt.Sprintln(l...)
	if len(s) > 1500 {
		s = s[:1500] + " .."
	}
	return s
}

// patText is a pattern as it is written.
func patText(p api.Pat) string {
	switch p.Kind {
	case api.PatAny:
		return "_"
	case api.PatVar:
		return p.Name
	case api.PatInt:
		return fmt.Sprint(p.N)
	case api.PatCon:
		s := p.Name
		for _, x := range p.Args {
			s += " (" + patText(x) + ")"
		}
		return s
	}
	return fmt.Sprint("kind ", p.Kind)
}

func patTexts(l []api.Pat) string {
	var out []string
	for _, p := range l {
		out = append(out, patText(p))
	}
	return strings.Join(out, ", ")
}

func rowTexts(l [][]api.Pat) string {
	var out []string
	for _, r := range l {
		out = append(out, patTexts(r))
	}
	return strings.Join(out, " | ")
}

// checkUseful holds Useful against the second reading, and tells what it tells.
func checkUseful(t *testing.T, l []api.Decl, rows [][]api.Pat, row []api.Pat) (bool, api.Errno) {
	t.Helper()
	got, err := Useful(l, rows, row)
	if want, wantErr := plainUseful(l, rows, row); got != want || err != wantErr {
		t.Fatalf("%s: %v, %v, not %v, %v", brief(rowTexts(rows), ":", patTexts(row)), got, err, want, wantErr)
	}
	return got, err
}

// checkColumn holds Exhaustive and Idle against the second reading, and Useful of a column; it tells what the first tells.
func checkColumn(t *testing.T, l []api.Decl, pats []api.Pat) (bool, api.Errno) {
	t.Helper()
	got, err := Exhaustive(l, pats)
	if want, wantErr := plainExhaustive(l, pats); got != want || err != wantErr {
		t.Fatalf("%s: exhaustive %v, %v, not %v, %v", brief(patTexts(pats)), got, err, want, wantErr)
	}
	checkIdle(t, l, pats)
	if err == api.OK && len(allOf(pats)) < api.MaxExprs {
		if more, err := checkUseful(t, l, each(pats), []api.Pat{none}); err != api.OK || more == got {
			t.Fatalf("%s: useful %v, %v, exhaustive %v", brief(patTexts(pats)), more, err, got)
		}
	}
	return got, err
}

func checkIdle(t *testing.T, l []api.Decl, pats []api.Pat) ([]int, api.Errno) {
	t.Helper()
	got, err := Idle(l, pats)
	if want, wantErr := plainIdle(l, pats); !slices.Equal(got, want) || err != wantErr {
		t.Fatalf("%s: idle %v, %v, not %v, %v", brief(patTexts(pats)), got, err, want, wantErr)
	}
	return got, err
}

func checkMeets(t *testing.T, l []api.Decl, p api.Pat, v api.Val) bool {
	t.Helper()
	got := Meets(l, p, v)
	if want := plainMeets(l, p, v); got != want {
		t.Fatalf("%s of %s: %v, not %v", brief(patText(p)), brief(v), got, want)
	}
	return got
}

func checkCheck(t *testing.T, p api.Program) api.Fault {
	t.Helper()
	got := Check(p)
	if want := plainCheck(p); got != want {
		s, _ := show.Program(p)
		t.Fatalf("%s: %v, not %v", brief(s), got, want)
	}
	return got
}

// wantUseful asks of rows and a row that are written.
func wantUseful(t *testing.T, all, one string, want bool) {
	t.Helper()
	if got, err := checkUseful(t, types(), rows(all), row(one)); got != want || err != api.OK {
		t.Errorf("%s : %s: %v, %v", all, one, got, err)
	}
}

func wantExhaustive(t *testing.T, s string, want bool) {
	t.Helper()
	if got, err := checkColumn(t, types(), pats(s)); got != want || err != api.OK {
		t.Errorf("%s: %v, %v", s, got, err)
	}
}

func wantIdle(t *testing.T, s string, want ...int) {
	t.Helper()
	if got, err := checkIdle(t, types(), pats(s)); !slices.Equal(got, want) || err != api.OK {
		t.Errorf("%s: %v, %v", s, got, err)
	}
}

// marked is a text without the @ in it, and where that stood.
func marked(s string) (string, int) {
	ahead, behind, ok := strings.Cut(s, "@")
	if !ok {
		return s, 0
	}
	return ahead + behind, len(ahead)
}
