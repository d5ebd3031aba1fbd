package typ

import (
	"reflect"
	"slices"
	"strings"
	"testing"
	"unsafe"

	"athanor/api"
	"athanor/scope"
)

// copyValue is a copy that shares nothing with the value, its lists with spare room; empty ones are not nil.
func copyValue(v reflect.Value) reflect.Value {
	out := reflect.New(v.Type()).Elem()
	switch v.Kind() {
	case reflect.Struct:
		for i := range v.NumField() {
			out.Field(i).Set(copyValue(v.Field(i)))
		}
	case reflect.Slice:
		out = reflect.MakeSlice(v.Type(), 0, v.Len()+2)
		for i := range v.Len() {
			out = reflect.Append(out, copyValue(v.Index(i)))
		}
	case reflect.String:
		out.SetString(strings.Clone(v.String()))
	default:
		out.Set(v)
	}
	return out
}

func copyOf[T any](x T) T {
	return copyValue(reflect.ValueOf(x)).Interface().(T)
}

func visit(v reflect.Value, f func(reflect.Value)) {
	f(v)
	switch v.Kind() {
	case reflect.Struct:
		for i := range v.NumField() {
			visit(v.Field(i), f)
		}
	case reflect.Slice:
		for i := range v.Len() {
			visit(v.Index(i), f)
		}
	}
}

// stretch is bytes of memory.
type stretch struct{ from, to uintptr }

// memory tells where a value's lists (with their spare room) and, if asked for, its texts lie.
func memory(x any, texts bool) []stretch {
	var out []stretch
	visit(reflect.ValueOf(x), func(v reflect.Value) {
		switch {
		case v.Kind() == reflect.Slice && v.Cap() > 0:
			out = append(out, stretch{v.Pointer(), v.Pointer() + uintptr(v.Cap())*v.Type().Elem().Size()})
		case texts && v.Kind() == reflect.String && v.Len() > 0:
			from := uintptr(unsafe.Pointer(unsafe.StringData(v.String())))
			out = append(out, stretch{from, from + uintptr(v.Len())})
		}
	})
	return out
}

// apart tells whether no two of the stretches share a byte.
func apart(l []stretch) bool {
	slices.SortFunc(l, func(a, b stretch) int { return int(a.from) - int(b.from) })
	for i := 1; i < len(l); i++ {
		if l[i].from < l[i-1].to {
			return false
		}
	}
	return true
}

// spareIsZero tells whether all the spare room of a value's lists is zero.
func spareIsZero(x any) bool {
	zero := true
	visit(reflect.ValueOf(x), func(v reflect.Value) {
		if v.Kind() == reflect.Slice {
			for i := v.Len(); i < v.Cap(); i++ {
				zero = zero && v.Slice(0, v.Cap()).Index(i).IsZero()
			}
		}
	})
	return zero
}

// overwrite changes all that a value's lists hold, their spare room as well.
func overwrite(v reflect.Value) {
	switch v.Kind() {
	case reflect.Struct:
		for i := range v.NumField() {
			overwrite(v.Field(i))
		}
	case reflect.Slice:
		all := v.Slice(0, v.Cap())
		for i := range all.Len() {
			overwrite(all.Index(i))
		}
	case reflect.String:
		v.SetString("Overwritten")
	case reflect.Int:
		v.SetInt(99)
	}
}

// given is what is handed in, and a copy of it.
type given[T any] struct{ mine, was T }

func give[T any](x T) given[T] {
	return given[T]{copyOf(x), copyOf(x)}
}

func (g given[T]) check(t *testing.T) {
	t.Helper()
	if !reflect.DeepEqual(copyOf(g.mine), g.was) || !spareIsZero(g.mine) {
		t.Errorf("%v: what was given is changed", g.was)
	}
}

// checkTold: what was told shares no memory, not within itself and not with the others; then all of it is changed.
func checkTold(t *testing.T, told *api.Type, others ...any) {
	t.Helper()
	if !spareIsZero(*told) {
		t.Errorf("%s: something lies in spare room", text(*told))
	}
	all, texts := memory(*told, false), memory(*told, true)
	for _, x := range others {
		all = append(all, memory(x, false)...)
		for _, held := range memory(x, true) {
			for _, s := range texts {
				if s.from < held.to && held.from < s.to {
					t.Errorf("%s: memory is shared with what was given", text(*told))
				}
			}
		}
	}
	if !apart(all) {
		t.Errorf("%s: memory is shared", text(*told))
	}
	overwrite(reflect.ValueOf(told).Elem())
}

func pureTypes() []api.Type {
	l := []api.Type{{}, named("x"), wide(1024), wide(1025), deep(1024), con("\xff", v(1)), {Kind: 9, Name: "x", N: 4, Args: []api.Type{v(1), named("y"), {Kind: -1}}}}
	for _, s := range []string{"int", "'1", "'2", "int -> int", "'1 -> '2", "'1 -> '1", "list '1", "list (list '2) -> list int", "p '1 ('2 -> q '3) '3 '1", "'a -> '1 -> 'b -> 'a", "bool", "nope", "list nope"} {
		l = append(l, ty(s))
	}
	return l
}

// TestPureSolver: what is handed in to a solver is neither changed nor kept, and what it tells is not its own memory.
func TestPureSolver(t *testing.T) {
	for _, x := range pureTypes() {
		for _, y := range pureTypes() {
			if Size(x)+Size(y) > 1026 {
				continue
			}
			b := newBoth(t, 6)
			for _, pair := range [][2]api.Type{{v(4), con("kept", v(2), con("more", v(5)))}, {v(6), v(4)}, {x, y}, {con("p", v(3), x), con("p", y, x)}} {
				l, m := give(pair[0]), give(pair[1])
				if got, want := b.s.Unify(l.mine, m.mine), b.plain.unify(pair[0], pair[1]); got != want {
					t.Fatalf("%s, %s: %v, not %v", text(pair[0]), text(pair[1]), got, want)
				}
				l.check(t)
				m.check(t)
				overwrite(reflect.ValueOf(&l.mine).Elem())
				overwrite(reflect.ValueOf(&m.mine).Elem())
				b.checkAll()
			}
			for _, z := range []api.Type{x, con("p", x, y, x), con("q", v(4), v(6), v(4)), fun(v(3), v(1))} {
				g := give(z)
				first, err := b.s.Apply(g.mine)
				second, _ := b.s.Apply(g.mine)
				want, wantErr := b.plain.apply(z)
				if err != wantErr || !alike(first, want) || !alike(second, want) {
					t.Fatalf("%s: %v, not %v", text(z), err, wantErr)
				}
				checkTold(t, &first, g.mine, second)
				if !alike(second, want) {
					t.Errorf("%s: one answer is changed with another", text(z))
				}
				checkTold(t, &second, g.mine)
				g.check(t)
				b.apply(z)
			}
			b.checkAll()
		}
	}
}

func TestPureTypes(t *testing.T) {
	decls := scope.All(api.Program{Decls: []api.Decl{{Name: "p", Params: []string{"a"}, Cons: []api.Con{{Name: "P", Fields: []api.Type{integer, named("a")}}}}, {Name: "q", Cons: []api.Con{{Name: "Q", Fields: []api.Type{fun(integer, con("p"))}}}}}})
	for _, x := range pureTypes() {
		g := give(x)
		first, err := Canon(g.mine)
		second, _ := Canon(g.mine)
		want, wantErr := plainCanon(x)
		if err != wantErr || !alike(first, want) || !alike(second, want) {
			t.Fatalf("%s: %s, %v", text(x), text(first), err)
		}
		checkTold(t, &first, g.mine, second)
		if !alike(second, want) {
			t.Errorf("%s: one answer is changed with another", text(x))
		}
		g.check(t)
		l := give(decls)
		for range 2 {
			if got, want := Size(g.mine), plainSize(x); got != want {
				t.Errorf("%s: %d nodes", text(x), got)
			}
			if got, want := First(l.mine, g.mine), plainFirst(decls, x); got != want {
				t.Errorf("%s: %v", text(x), got)
			}
			for _, y := range pureTypes() {
				h := give(y)
				if got, want := Same(g.mine, h.mine), plainSame(x, y); got != want {
					t.Errorf("%s, %s: %v", text(x), text(y), got)
				}
				h.check(t)
			}
		}
		g.check(t)
		l.check(t)
	}
}
