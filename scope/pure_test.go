package scope

import (
	"reflect"
	"slices"
	"strings"
	"testing"
	"unsafe"

	"athanor/api"
)

// copyValue is a copy that shares nothing with the value, its lists with spare room; empty ones are not nil.
func copyValue(v reflect.Value) reflect.Value {
	out := reflect.New(v.Type()).Elem()
	switch v.Kind() {
	case reflect.Struct:
		for i := range v.NumField() {
			out.Field(i).Set(copyValue(v.Field(i)))
		}
	case reflect.Slice:
		out = reflect.MakeSlice(v.Type(), 0, v.Len()+2)
		for i := range v.Len() {
			out = reflect.Append(out, copyValue(v.Index(i)))
		}
	case reflect.String:
		out.SetString(strings.Clone(v.String()))
	default:
		out.Set(v)
	}
	return out
}

func copyOf[T any](x T) T {
	return copyValue(reflect.ValueOf(x)).Interface().(T)
}

func visit(v reflect.Value, f func(reflect.Value)) {
	f(v)
	switch v.Kind() {
	case reflect.Struct:
		for i := range v.NumField() {
			visit(v.Field(i), f)
		}
	case reflect.Slice:
		for i := range v.Len() {
			visit(v.Index(i), f)
		}
	}
}

// stretch is bytes of memory.
type stretch struct{ from, to uintptr }

// memory tells where a value's lists (with their spare room) and, if asked for, its texts lie.
func memory(x any, texts bool) []stretch {
	var out []stretch
	visit(reflect.ValueOf(x), func(v reflect.Value) {
		switch {
		case v.Kind() == reflect.Slice && v.Cap() > 0:
			out = append(out, stretch{v.Pointer(), v.Pointer() + uintptr(v.Cap())*v.Type().Elem().Size()})
		case texts && v.Kind() == reflect.String && v.Len() > 0:
			from := uintptr(unsafe.Pointer(unsafe.StringData(v.String())))
			out = append(out, stretch{from, from + uintptr(v.Len())})
		}
	})
	return out
}

// apart tells whether no two of the stretches share a byte.
func apart(l []stretch) bool {
	slices.SortFunc(l, func(a, b stretch) int { return int(a.from) - int(b.from) })
	for i := 1; i < len(l); i++ {
		if l[i].from < l[i-1].to {
			return false
		}
	}
	return true
}

// spareIsZero tells whether all the spare room of a value's lists is zero.
func spareIsZero(x any) bool {
	zero := true
	visit(reflect.ValueOf(x), func(v reflect.Value) {
		if v.Kind() == reflect.Slice {
			for i := v.Len(); i < v.Cap(); i++ {
				zero = zero && v.Slice(0, v.Cap()).Index(i).IsZero()
			}
		}
	})
	return zero
}

// overwrite changes all that a value's lists hold, their spare room as well.
func overwrite(v reflect.Value) {
	switch v.Kind() {
	case reflect.Struct:
		for i := range v.NumField() {
			overwrite(v.Field(i))
		}
	case reflect.Slice:
		all := v.Slice(0, v.Cap())
		for i := range all.Len() {
			overwrite(all.Index(i))
		}
	case reflect.String:
		v.SetString("Overwritten")
	case reflect.Int:
		v.SetInt(99)
	}
}

// checkPure: the call tells the same of a copy, changes nothing of it, and shares no memory with it, nor within what it tells.
func checkPure[T, R any](t *testing.T, given T, call func(T) R) {
	t.Helper()
	want := copyOf(call(given))
	mine := copyOf(given)
	got := call(mine)
	if !reflect.DeepEqual(copyOf(got), want) {
		t.Errorf("%v, not %v", got, want)
	}
	if !reflect.DeepEqual(mine, copyOf(given)) || !spareIsZero(mine) {
		t.Errorf("%v: what was given is changed", given)
	}
	if lists := memory(got, false); !apart(append(lists, memory(mine, false)...)) {
		t.Errorf("%v: memory is shared", given)
	}
	for _, told := range memory(got, true) {
		for _, held := range memory(mine, true) {
			if told.from < held.to && held.from < told.to {
				t.Errorf("%v: memory is shared with what was given", given)
			}
		}
	}
	overwrite(reflect.ValueOf(&got).Elem())
	if !reflect.DeepEqual(mine, copyOf(given)) || !spareIsZero(mine) {
		t.Errorf("%v: what was given is changed by changing what was told", given)
	}
	if again := call(mine); !reflect.DeepEqual(copyOf(again), want) {
		t.Errorf("%v, the second time, not %v", again, want)
	}
}

func TestPure(t *testing.T) {
	find := func(l []api.Decl) []int {
		decl, tag, ok := Find(l, "A")
		if !ok {
			return []int{-1}
		}
		return []int{decl, tag}
	}
	for _, s := range samples() {
		p := read(t, s)
		checkPure(t, p, All)
		checkPure(t, p, Check)
		checkPure(t, p.Decls, find)
		checkPure(t, p.Main, Free)
	}
	for _, p := range oddPrograms() {
		checkPure(t, p, All)
		checkPure(t, p, Check)
		checkPure(t, p.Main, Free)
	}
	for _, e := range oddExprs() {
		checkPure(t, e, Free)
		checkPure(t, api.Program{Main: e}, All)
		checkPure(t, api.Program{Main: e}, Check)
	}
}
