package typ

import (
	"fmt"
	"slices"
	"strconv"
	"strings"
	"testing"

	"athanor/api"
)

// alike tells whether two types are, where no list and an empty one are one.
func alike(a, b api.Type) bool {
	return a.Kind == b.Kind && a.Name == b.Name && a.N == b.N && slices.EqualFunc(a.Args, b.Args, alike)
}

func isZero(t api.Type) bool {
	return t.Kind == 0 && t.Name == "" && t.N == 0 && len(t.Args) == 0
}

// integer is the type int.
var integer = api.Type{Kind: api.TyInt}

func v(n int) api.Type { return api.Type{Kind: api.TyVar, N: n} }

func named(s string) api.Type { return api.Type{Kind: api.TyVar, Name: s} }

func fun(a, b api.Type) api.Type { return api.Type{Kind: api.TyFun, Args: []api.Type{a, b}} }

func con(name string, l ...api.Type) api.Type {
	return api.Type{Kind: api.TyCon, Name: name, Args: l}
}

func times(n int, t api.Type) []api.Type { return slices.Repeat([]api.Type{t}, n) }

// wide is a type of n nodes: w of ints.
func wide(n int) api.Type { return con("w", times(n-1, integer)...) }

// deep is a type of n nodes, each within the one ahead, the last of them an int.
func deep(n int) api.Type {
	t := integer
	for range n - 1 {
		t = con("d", t)
	}
	return t
}

// doubled is a type of 2^(n+1) - 1 nodes, which lie in little memory.
func doubled(n int) api.Type {
	t := integer
	for range n {
		t = fun(t, t)
	}
	return t
}

// sized is types of n nodes in several shapes.
func sized(n int) []api.Type {
	mixed := con("m", deep(n/2), wide(n-n/2-1))
	return []api.Type{wide(n), deep(n), mixed, con("m", wide(n-n/2-1), deep(n/2)), con("w", append([]api.Type{deep(n - 10)}, times(9, integer)...)...), con("w", append(times(9, integer), deep(n-10))...)}
}

// ty reads a type as it is written in programs; a variable's sign that is a number is its N.
func ty(s string) api.Type {
	for _, sign := range []string{"(", ")", "->"} {
		s = strings.ReplaceAll(s, sign, " "+sign+" ")
	}
	r := &reader{words: strings.Fields(s)}
	t := r.typ()
	if len(r.words) > 0 {
		panic("no type: " + s)
	}
	return t
}

type reader struct{ words []string }

func (r *reader) ahead() string {
	if len(r.words) == 0 {
		return ""
	}
	return r.words[0]
}

func (r *reader) next() string {
	s := r.words[0]
	r.words = r.words[1:]
	return s
}

func (r *reader) typ() api.Type {
	t := r.app()
	if r.ahead() == "->" {
		r.next()
		return fun(t, r.typ())
	}
	return t
}

func (r *reader) app() api.Type {
	t := r.atom()
	for !slices.Contains([]string{"", ")", "->"}, r.ahead()) {
		t.Args = append(t.Args, r.atom())
	}
	return t
}

func (r *reader) atom() api.Type {
	switch s := r.next(); {
	case s == "(":
		t := r.typ()
		r.next()
		return t
	case s == "int":
		return integer
	case s[0] == '\'':
		if n, err := strconv.Atoi(s[1:]); err == nil {
			return v(n)
		}
		return named(s[1:])
	default:
		return con(s)
	}
}

// both is a solver, and a second one that has been through the same.
type both struct {
	t     *testing.T
	s     *Solver
	plain *plain
	done  [][2]api.Type // what was unified
}

func newBoth(t *testing.T, vars int) *both {
	b := &both{t: t, s: New(), plain: &plain{to: map[int]api.Type{}}}
	b.fresh(vars)
	return b
}

func (b *both) fresh(n int) {
	b.t.Helper()
	for range n {
		b.plain.made++
		if got := b.s.Fresh(); !alike(got, v(b.plain.made)) {
			b.t.Fatalf("Fresh is %v, not '%d", got, b.plain.made)
		}
	}
	if got := b.s.Vars(); got != b.plain.made {
		b.t.Fatalf("Vars is %d, not %d", got, b.plain.made)
	}
}

// unify holds the answer, and what all variables are then, against the second solver.
func (b *both) unify(x, y api.Type) api.Errno {
	b.t.Helper()
	got, want := b.s.Unify(x, y), b.plain.unify(x, y)
	if got != want {
		b.t.Fatalf("Unify(%.500s, %.500s) is %v, not %v", text(x), text(y), got, want)
	}
	b.done = append(b.done, [2]api.Type{x, y})
	b.checkAll()
	return got
}

func (b *both) apply(x api.Type) (api.Type, api.Errno) {
	b.t.Helper()
	got, err := b.s.Apply(x)
	want, wantErr := b.plain.apply(x)
	if err != wantErr || !alike(got, want) {
		b.t.Fatalf("Apply(%.500s) is %.500s, %v, not %.500s, %v", text(x), text(got), err, text(want), wantErr)
	}
	return got, err
}

// checkAll asks for all variables, if they are few.
func (b *both) checkAll() {
	b.t.Helper()
	if b.s.Vars() != b.plain.made {
		b.t.Fatalf("Vars is %d, not %d", b.s.Vars(), b.plain.made)
	}
	for n := 1; n <= b.plain.made && n <= 50; n++ {
		b.apply(v(n))
	}
}

// told is what all variables are.
func (b *both) told() []string {
	var l []string
	for n := range b.plain.made {
		x, err := b.s.Apply(v(n + 1))
		l = append(l, text(x)+" "+err.Error())
	}
	return l
}

// again is another solver that has been through the same.
func (b *both) again() *Solver {
	s := New()
	for range b.plain.made {
		s.Fresh()
	}
	for _, x := range b.done {
		s.Unify(x[0], x[1])
	}
	return s
}

// text is a type in a form that tells all of its fields apart.
func text(t api.Type) string {
	var b strings.Builder
	writeText(&b, t)
	return b.String()
}

func writeText(b *strings.Builder, t api.Type) {
	fmt.Fprintf(b, "%d%q%d", t.Kind, t.Name, t.N)
	for _, x := range t.Args {
		if b.Len() > 1<<16 {
			b.WriteString("...")
			return
		}
		b.WriteByte('[')
		writeText(b, x)
		b.WriteByte(']')
	}
}

var errors = map[string]api.Errno{"": api.OK, "arg": api.ErrArg, "many": api.ErrMany, "unify": api.ErrUnify, "occurs": api.ErrOccurs}

// steps goes through lines: "a = b" is unified, with "! error" behind it unless that is OK; "a : b" tells what a is, written out.
func steps(t *testing.T, vars int, lines ...string) *both {
	t.Helper()
	b := newBoth(t, vars)
	for i, line := range lines {
		if from, to, ok := strings.Cut(line, ":"); ok {
			if got, err := b.apply(ty(from)); err != api.OK || !alike(got, ty(to)) {
				t.Errorf("%d: %s: %s, %v", i, line, text(got), err)
			}
			continue
		}
		line, want, _ := strings.Cut(line, "!")
		x, y, _ := strings.Cut(line, "=")
		if got := b.unify(ty(x), ty(y)); got != errors[strings.TrimSpace(want)] {
			t.Errorf("%d: %s: %v, not %s", i, line, got, want)
		}
	}
	return b
}
