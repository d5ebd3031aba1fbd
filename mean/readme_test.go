package mean

import (
	"reflect"
	"testing"

	"athanor/api"
)

// TestReadme is the example of README.md.
func TestReadme(t *testing.T) {
	p := mustRead("fun l -> case l of Nil -> 0 | Cons x _ -> print x; x + 1 end")
	if fault := Check(p); fault != (api.Fault{}) {
		t.Error(fault)
	}
	r, fault := Run(p, []int{5, 7}, 1000)
	if !reflect.DeepEqual(r, api.Result{End: api.RunDone, Writes: []int{5}, Shows: []int{6}}) || fault != (api.Fault{}) {
		t.Error(r, fault)
	}
	if n := Steps(p, []int{5, 7}, 1000); n != 1 {
		t.Error(n)
	}
	r, fault = Run(p, nil, 0)
	if !reflect.DeepEqual(r, api.Result{End: api.RunFuel}) || fault != (api.Fault{}) {
		t.Error(r, fault)
	}
}
