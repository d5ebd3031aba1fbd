package useful

import (
	"slices"
	"testing"

	"athanor/api"
	"athanor/scope"
)

// TestReadme is the example of README.md.
func TestReadme(t *testing.T) {
	p := mustRead("fun l -> case l of Nil -> 1 | Cons x Nil -> 2 | Nil -> 3 end")
	l, rows := scope.All(p), p.Main.Args[0].Pats
	if all, err := Exhaustive(l, rows); all || err != api.OK {
		t.Error(all, err)
	}
	if idle, err := Idle(l, rows); !slices.Equal(idle, []int{2}) || err != api.OK {
		t.Error(idle, err)
	}
	if more, err := Useful(l, [][]api.Pat{rows[:2]}, rows[1:]); !more || err != api.OK {
		t.Error(more, err)
	}
	if !Meets(l, rows[0], api.Val{}) || Check(p) != (api.Fault{Code: api.ErrMatch, At: 9}) {
		t.Error(Check(p))
	}
}
