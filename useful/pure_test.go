package useful

import (
	"reflect"
	"slices"
	"strings"
	"testing"
	"unsafe"

	"athanor/api"
	"athanor/scope"
)

// copyValue is a copy that shares nothing with the value, its lists with spare room; empty ones are not nil.
func copyValue(v reflect.Value) reflect.Value {
	out := reflect.New(v.Type()).Elem()
	switch v.Kind() {
	case reflect.Struct:
		for i := range v.NumField() {
			out.Field(i).Set(copyValue(v.Field(i)))
		}
	case reflect.Slice:
		out = reflect.MakeSlice(v.Type(), 0, v.Len()+2)
		for i := range v.Len() {
			out = reflect.Append(out, copyValue(v.Index(i)))
		}
	case reflect.String:
		out.SetString(strings.Clone(v.String()))
	default:
		out.Set(v)
	}
	return out
}

func copyOf[T any](x T) T {
	return copyValue(reflect.ValueOf(x)).Interface().(T)
}

func visit(v reflect.Value, f func(reflect.Value)) {
	f(v)
	switch v.Kind() {
	case reflect.Struct:
		for i := range v.NumField() {
			visit(v.Field(i), f)
		}
	case reflect.Slice:
		for i := range v.Len() {
			visit(v.Index(i), f)
		}
	}
}

// stretch is bytes of memory.
type stretch struct{ from, to uintptr }

// memory tells where a value's lists (with their spare room) and, if asked for, its texts lie.
func memory(x any, texts bool) []stretch {
	var out []stretch
	visit(reflect.ValueOf(x), func(v reflect.Value) {
		switch {
		case v.Kind() == reflect.Slice && v.Cap() > 0:
			out = append(out, stretch{v.Pointer(), v.Pointer() + uintptr(v.Cap())*v.Type().Elem().Size()})
		case texts && v.Kind() == reflect.String && v.Len() > 0:
			from := uintptr(unsafe.Pointer(unsafe.StringData(v.String())))
			out = append(out, stretch{from, from + uintptr(v.Len())})
		}
	})
	return out
}

// apart tells whether no two of the stretches share a byte.
func apart(l []stretch) bool {
	slices.SortFunc(l, func(a, b stretch) int { return int(a.from) - int(b.from) })
	for i := 1; i < len(l); i++ {
		if l[i].from < l[i-1].to {
			return false
		}
	}
	return true
}

// spareIsZero tells whether all the spare room of a value's lists is zero.
func spareIsZero(x any) bool {
	zero := true
	visit(reflect.ValueOf(x), func(v reflect.Value) {
		if v.Kind() == reflect.Slice {
			for i := v.Len(); i < v.Cap(); i++ {
				zero = zero && v.Slice(0, v.Cap()).Index(i).IsZero()
			}
		}
	})
	return zero
}

// overwrite changes all that a value's lists hold, their spare room as well.
func overwrite(v reflect.Value) {
	switch v.Kind() {
	case reflect.Struct:
		for i := range v.NumField() {
			overwrite(v.Field(i))
		}
	case reflect.Slice:
		all := v.Slice(0, v.Cap())
		for i := range all.Len() {
			overwrite(all.Index(i))
		}
	case reflect.String:
		v.SetString("Overwritten")
	case reflect.Int:
		v.SetInt(99)
	}
}

// checkPure: the call tells the same of a copy, changes nothing of it, and shares no memory with it, nor within what it tells.
func checkPure[T, R any](t *testing.T, given T, call func(T) R) {
	t.Helper()
	want := copyOf(call(given))
	mine := copyOf(given)
	got := call(mine)
	if !reflect.DeepEqual(copyOf(got), want) {
		t.Errorf("%v, not %v", got, want)
	}
	if !reflect.DeepEqual(mine, copyOf(given)) || !spareIsZero(mine) {
		t.Errorf("%v: what was given is changed", given)
	}
	if lists := memory(got, false); !apart(append(lists, memory(mine, false)...)) {
		t.Errorf("%v: memory is shared", given)
	}
	for _, told := range memory(got, true) {
		for _, held := range memory(mine, true) {
			if told.from < held.to && held.from < told.to {
				t.Errorf("%v: memory is shared with what was given", given)
			}
		}
	}
	overwrite(reflect.ValueOf(&got).Elem())
	if !reflect.DeepEqual(mine, copyOf(given)) || !spareIsZero(mine) {
		t.Errorf("%v: what was given is changed by changing what was told", given)
	}
	if again := call(mine); !reflect.DeepEqual(copyOf(again), want) {
		t.Errorf("%v, the second time, not %v", again, want)
	}
}

// question is all that is asked of at one time.
type question struct {
	L    []api.Decl
	Rows [][]api.Pat
	Row  []api.Pat
	V    api.Val
	Main api.Expr
}

// answers is all that is told of it.
type answers struct {
	Useful, Exhaustive, Meets         bool
	UsefulErr, ExhaustiveErr, IdleErr api.Errno
	Idle                              []int
	Fault                             api.Fault
}

func idle(q question) []int {
	l, _ := Idle(q.L, q.Row)
	return l
}

func ask(q question) answers {
	var a answers
	a.Useful, a.UsefulErr = Useful(q.L, q.Rows, q.Row)
	a.Exhaustive, a.ExhaustiveErr = Exhaustive(q.L, q.Row)
	a.Idle, a.IdleErr = Idle(q.L, q.Row)
	for _, p := range q.Row {
		a.Meets = a.Meets || Meets(q.L, p, q.V)
	}
	a.Fault = Check(api.Program{Decls: q.L, Main: q.Main})
	return a
}

func checkPureAll(t *testing.T, q question) {
	t.Helper()
	checkPure(t, q, ask)
	checkPure(t, q, idle)
}

func TestPure(t *testing.T) {
	main := mustRead("fun l -> case l of Nil -> 1 | Cons x (Cons y _) -> x | _ -> case 1 of 1 -> 2 end end").Main
	for _, l := range [][]api.Decl{types(), types()[3:], nil, mustRead("type t = A | B int | C t t; 1").Decls} {
		for _, s := range []string{"", "_", "x | x", "A | B _ | C x y | A", "Nil | Cons _ Nil | Nil | Cons 1 (Cons 2 x) | Cons 1 (Cons 2 Nil)", "1 | 2 | 1 | x | _ | 3", "Foo", "A | B", "C A _ | C _ A | C A A | C (C A 1) A"} {
			for _, r := range []string{"", "_", "A, B 1, x", "1, 2, _", "Cons 1 Nil, _"} {
				q := question{L: l, Row: pats(s), V: vcon(1, vint(1), vcon(0)), Main: main}
				for range 3 {
					q.Rows = append(q.Rows, row(r))
				}
				checkPureAll(t, q)
				q.Rows = slices.Repeat([][]api.Pat{q.Row}, 2)
				checkPureAll(t, q)
				q.Rows, q.Row = rows("A, _ | B _, 1 | C _ _, x"), row("_, _")
				checkPureAll(t, q)
			}
		}
	}
	for _, p := range []api.Pat{{}, {Kind: 9}, pcon("A", none), {Kind: api.PatAny, Args: []api.Pat{pcon("A"), none}}} {
		checkPureAll(t, question{L: types(), Rows: [][]api.Pat{{p, none}, {none, p}}, Row: []api.Pat{p, p}, V: vint(1)})
	}
	checkPureAll(t, question{L: append(types(), tuple(9)), Rows: flags(9), Row: nones(9), Main: main})
	checkPureAll(t, question{L: append(types(), tuple(9)), Row: append(tupled(flags(9)), none, none)})
}

// TestSharedParts: patterns that are one in memory, and lists that stand in one another's spare room, are not changed.
func TestSharedParts(t *testing.T) {
	l := types()
	args := []api.Pat{none, pcon("A"), pcon("B", pint(1)), pvar("x")}
	c := pcon("C", args[:2]...)
	rows := [][]api.Pat{args[:2], args[1:3], args[2:], {c, c}}
	want := copyOf(args)
	for range 2 {
		if got, err := checkUseful(t, l, rows, args[:2]); got || err != api.OK {
			t.Error(got, err)
		}
		if got, err := checkUseful(t, l, rows[1:], args[:2]); !got || err != api.OK {
			t.Error(got, err)
		}
		if got, err := checkColumn(t, l, args); !got || err != api.OK {
			t.Error(got, err)
		}
		if !reflect.DeepEqual(copyOf(args), want) {
			t.Errorf("%v: what was given is changed", args)
		}
	}
}

// TestAgain: what was asked before, and told, changes nothing of what is told.
func TestAgain(t *testing.T) {
	l := scope.All(mustRead("type t = A | B int | C t t; 1"))
	first, err := Idle(l, pats("A | A | _ | A"))
	for range 3 {
		for i := range first {
			first[i] = 99
		}
		Useful(l, flags(16), nones(16))
		Exhaustive(nil, pats("A"))
		Check(api.Program{})
		first, err = Idle(l, pats("A | A | _ | A"))
		if !slices.Equal(first, []int{1, 3}) || err != api.OK {
			t.Error(first, err)
		}
		// The same name in another list is another constructor.
		other := mustRead("type s = B int | A; 1").Decls
		if all, err := Exhaustive(other, pats("A | B _")); !all || err != api.OK {
			t.Error(all, err)
		}
		if Meets(other, pcon("A"), vcon(0)) || !Meets(other, pcon("A"), vcon(1)) || !Meets(l, pcon("A"), vcon(0)) {
			t.Error("meets")
		}
	}
}
