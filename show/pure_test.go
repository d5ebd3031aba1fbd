package show

import (
	"reflect"
	"strings"
	"testing"
	"unsafe"

	"athanor/api"
)

// copyValue is a copy that shares nothing with the value, its lists with spare room.
func copyValue(v reflect.Value) reflect.Value {
	out := reflect.New(v.Type()).Elem()
	switch v.Kind() {
	case reflect.Struct:
		for i := range v.NumField() {
			out.Field(i).Set(copyValue(v.Field(i)))
		}
	case reflect.Slice:
		out = reflect.MakeSlice(v.Type(), 0, v.Len()+2)
		for i := range v.Len() {
			out = reflect.Append(out, copyValue(v.Index(i)))
		}
	case reflect.String:
		out.SetString(strings.Clone(v.String()))
	default:
		out.Set(v)
	}
	return out
}

// whole tells all that a value has, its lists' spare room as well.
func whole(v reflect.Value) reflect.Value {
	out := copyValue(v)
	visit(v, func(v reflect.Value) {
		if v.Kind() == reflect.Slice {
			for i := v.Len(); i < v.Cap(); i++ {
				if !v.Slice(0, v.Cap()).Index(i).IsZero() {
					out = reflect.ValueOf("spare room")
				}
			}
		}
	})
	return out
}

func visit(v reflect.Value, f func(reflect.Value)) {
	f(v)
	switch v.Kind() {
	case reflect.Struct:
		for i := range v.NumField() {
			visit(v.Field(i), f)
		}
	case reflect.Slice:
		for i := range v.Len() {
			visit(v.Index(i), f)
		}
	}
}

// checkPure: the call changes nothing of what it is given, tells a text that shares nothing with it, and empty lists are as none.
func checkPure[T any](t *testing.T, given T, call func(T) (string, api.Errno)) {
	t.Helper()
	want, wantErr := call(given)
	mine := copyValue(reflect.ValueOf(given))
	before := whole(mine).Interface()
	got, err := call(mine.Interface().(T))
	if got != want || err != wantErr {
		t.Errorf("%q, %v, not %q, %v", got, err, want, wantErr)
	}
	if !reflect.DeepEqual(whole(mine).Interface(), before) {
		t.Errorf("%q: what was given is changed", want)
	}
	visit(mine, func(v reflect.Value) {
		if s := v; s.Kind() == reflect.String && s.Len() > 0 && got != "" {
			from, to := uintptr(unsafe.Pointer(unsafe.StringData(s.String()))), uintptr(unsafe.Pointer(unsafe.StringData(got)))
			if from < to+uintptr(len(got)) && to < from+uintptr(s.Len()) {
				t.Errorf("%q shares a text with what was given", got)
			}
		}
	})
}

func TestPure(t *testing.T) {
	for _, s := range standings() {
		checkPure(t, s.e, Expr)
		checkPure(t, api.Program{Main: s.e}, Program)
		checkPure(t, cased(s.e, []api.Pat{pcon("A", none)}, s.e), Expr)
	}
	for _, x := range []api.Type{integer, tyvar("a"), tycon("t"), tycon("t", integer), tyfun(integer, tycon("u")), {}} {
		checkPure(t, x, Type)
		checkPure(t, inDecl(x), Program)
	}
}
