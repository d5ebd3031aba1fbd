package infer

import (
	"math"
	"reflect"
	"slices"
	"strings"
	"testing"
	"unsafe"

	"athanor/api"
)

// copyValue is a copy that shares nothing with the value, its lists with spare room; empty ones are not nil.
func copyValue(v reflect.Value) reflect.Value {
	out := reflect.New(v.Type()).Elem()
	switch v.Kind() {
	case reflect.Struct:
		for i := range v.NumField() {
			out.Field(i).Set(copyValue(v.Field(i)))
		}
	case reflect.Slice:
		out = reflect.MakeSlice(v.Type(), 0, v.Len()+2)
		for i := range v.Len() {
			out = reflect.Append(out, copyValue(v.Index(i)))
		}
	case reflect.String:
		out.SetString(strings.Clone(v.String()))
	default:
		out.Set(v)
	}
	return out
}

func copyOf[T any](x T) T {
	return copyValue(reflect.ValueOf(x)).Interface().(T)
}

func visit(v reflect.Value, f func(reflect.Value)) {
	f(v)
	switch v.Kind() {
	case reflect.Struct:
		for i := range v.NumField() {
			visit(v.Field(i), f)
		}
	case reflect.Slice:
		for i := range v.Len() {
			visit(v.Index(i), f)
		}
	}
}

// stretch is bytes of memory.
type stretch struct{ from, to uintptr }

// memory tells where a value's lists (with their spare room) and, if asked for, its texts lie.
func memory(x any, texts bool) []stretch {
	var out []stretch
	visit(reflect.ValueOf(x), func(v reflect.Value) {
		switch {
		case v.Kind() == reflect.Slice && v.Cap() > 0:
			out = append(out, stretch{v.Pointer(), v.Pointer() + uintptr(v.Cap())*v.Type().Elem().Size()})
		case texts && v.Kind() == reflect.String && v.Len() > 0:
			from := uintptr(unsafe.Pointer(unsafe.StringData(v.String())))
			out = append(out, stretch{from, from + uintptr(v.Len())})
		}
	})
	return out
}

// apart tells whether no two of the stretches share a byte.
func apart(l []stretch) bool {
	slices.SortFunc(l, func(a, b stretch) int { return int(a.from) - int(b.from) })
	for i := 1; i < len(l); i++ {
		if l[i].from < l[i-1].to {
			return false
		}
	}
	return true
}

// spareIsZero tells whether all the spare room of a value's lists is zero.
func spareIsZero(x any) bool {
	zero := true
	visit(reflect.ValueOf(x), func(v reflect.Value) {
		if v.Kind() == reflect.Slice {
			for i := v.Len(); i < v.Cap(); i++ {
				zero = zero && v.Slice(0, v.Cap()).Index(i).IsZero()
			}
		}
	})
	return zero
}

// overwrite changes all that a value's lists hold, their spare room as well.
func overwrite(v reflect.Value) {
	switch v.Kind() {
	case reflect.Struct:
		for i := range v.NumField() {
			overwrite(v.Field(i))
		}
	case reflect.Slice:
		all := v.Slice(0, v.Cap())
		for i := range all.Len() {
			overwrite(all.Index(i))
		}
	case reflect.String:
		v.SetString("Overwritten")
	case reflect.Int:
		v.SetInt(99)
	}
}

// checkPure: the call tells the same of a copy, changes nothing of it, and shares no memory with it, nor within what it tells.
func checkPure[T, R any](t *testing.T, given T, call func(T) R) {
	t.Helper()
	want := copyOf(call(given))
	mine := copyOf(given)
	got := call(mine)
	if !reflect.DeepEqual(copyOf(got), want) {
		t.Errorf("%v, not %v", got, want)
	}
	if !reflect.DeepEqual(mine, copyOf(given)) || !spareIsZero(mine) {
		t.Errorf("%v: what was given is changed", given)
	}
	if lists := memory(got, false); !apart(append(lists, memory(mine, false)...)) {
		t.Errorf("%v: memory is shared", given)
	}
	for _, told := range memory(got, true) {
		for _, held := range memory(mine, true) {
			if told.from < held.to && held.from < told.to {
				t.Errorf("%v: memory is shared with what was given", given)
			}
		}
	}
	overwrite(reflect.ValueOf(&got).Elem())
	if !reflect.DeepEqual(mine, copyOf(given)) || !spareIsZero(mine) {
		t.Errorf("%v: what was given is changed by changing what was told", given)
	}
	if again := call(mine); !reflect.DeepEqual(copyOf(again), want) {
		t.Errorf("%v, the second time, not %v", again, want)
	}
}

// answers is all that is told of a program.
type answers struct {
	Type  api.Type
	Fault api.Fault
	Text  string
	Again api.Fault
}

func ask(p api.Program) answers {
	t, fault := Infer(p)
	s, again := Text(p)
	return answers{t, fault, s, again}
}

func infer(p api.Program) api.Type {
	t, _ := Infer(p)
	return t
}

func checkPureAll(t *testing.T, p api.Program) {
	t.Helper()
	checkPure(t, p, infer)
	checkPure(t, p, ask)
}

// oddPrograms is programs that come of no text.
func oddPrograms() []api.Program {
	good := mustRead("type t 'a = A 'a (list 'a) | B; let rec f x = A x Nil in fun l -> case f 1 of A x (Cons 1 _) -> l | _ -> Nil end")
	var out []api.Program
	change := func(f func(p *api.Program)) {
		p := copyOf(good)
		f(&p)
		out = append(out, p)
	}
	for _, kind := range []int{-1, 0, 11, 99} {
		change(func(p *api.Program) { p.Main.Kind = kind })
		change(func(p *api.Program) { p.Main.Args[0].Kind = kind })
		change(func(p *api.Program) { p.Main.Args[1].Args[0].Pats[0].Args[1].Kind = kind })
		change(func(p *api.Program) { p.Decls[0].Cons[0].Fields[1].Kind = kind })
	}
	change(func(p *api.Program) { p.Main.Args = nil })
	change(func(p *api.Program) { p.Main.Args = p.Main.Args[:1] })
	change(func(p *api.Program) { p.Main.Args = append(p.Main.Args, one) })
	change(func(p *api.Program) { p.Main.Name = "F" })
	change(func(p *api.Program) { p.Main.Name = "in" })
	change(func(p *api.Program) { p.Main.Param = "" })
	change(func(p *api.Program) { p.Main.N = 1 })
	change(func(p *api.Program) { p.Main.Pats = []api.Pat{none} })
	change(func(p *api.Program) { p.Main.Args[1].Args[0].Pats = nil })
	change(func(p *api.Program) { p.Decls[0].Name = "T" })
	change(func(p *api.Program) { p.Decls[0].Params = []string{"a", "a", "a", "a", "a"} })
	change(func(p *api.Program) { p.Decls[0].Cons = nil })
	change(func(p *api.Program) { p.Main.At = -1 })
	change(func(p *api.Program) { p.Main.At = math.MaxInt; p.Main.Args[0].At = math.MinInt })
	return append(out, good, api.Program{}, api.Program{Main: one}, api.Program{Main: fun("l", name("l"))})
}

func TestPure(t *testing.T) {
	for _, s := range samples() {
		checkPureAll(t, mustRead(s))
	}
	for _, in := range inners() {
		checkPureAll(t, mustRead("let id = fun x -> x in fun l -> case Cons 1 l of _ -> case 1 of n -> "+in.s+" end end"))
	}
	for _, p := range oddPrograms() {
		checkPureAll(t, p)
		checkAll(t, p)
	}
}

// TestSharedParts: parts of a program that are one in memory are not changed either.
func TestSharedParts(t *testing.T) {
	args := []api.Expr{name("x"), name("x"), one}
	twice := api.Expr{Kind: api.ExCon, Name: "P", Args: args[:2]}
	p := mustRead("type p 'a 'b = P 'a 'b; fun l -> l")
	p.Main = fun("l", let("x", fun("x", twice), let("y", app(name("x"), name("l")), con("P", app(name("x"), one), cased(twice, []api.Pat{none, none}, one, one)))))
	if got, fault := checkAll(t, p); fault != (api.Fault{}) || got != "list int -> p (p int int) int" {
		t.Errorf("%s, %v", got, fault)
	}
	if !reflect.DeepEqual(args, []api.Expr{name("x"), name("x"), one}) {
		t.Errorf("%v: what was given is changed", args)
	}
}
