package exec

import (
	"slices"

	"athanor/api"
	"athanor/nums"
)

// hostModule is the Module of the host's functions.
const hostModule = "env"

// The host's functions; own is none of them.
const (
	own = iota
	hostRead
	hostMore
	hostWrite
	hostShow
	hostForce
)

// hostNumber is which of the host's functions has that Name.
func hostNumber(name string) int {
	switch name {
	case "read":
		return hostRead
	case "more":
		return hostMore
	case "write":
		return hostWrite
	case "show":
		return hostShow
	case "force":
		return hostForce
	}
	return own
}

// hostType is the type of one of the host's functions.
func hostType(number int) api.FuncType {
	switch number {
	case hostWrite, hostShow:
		return api.FuncType{Params: []int{api.I32}}
	}
	return api.FuncType{Results: []int{api.I32}}
}

// linked tells whether each import is one of the host's functions, with its type.
func linked(m api.Module) bool {
	for _, x := range m.Imports {
		number := hostNumber(x.Name)
		if x.Module != hostModule || number == own || !alike(m.Types[x.Type], hostType(number)) {
			return false
		}
	}
	return true
}

// talk is what the host tells the runs of a machine, and what they tell it.
type talk struct {
	inputs        []int
	force         []bool
	read, asked   int
	writes, shows []int
}

func newTalk(s api.Script) talk {
	return talk{inputs: slices.Clone(s.Inputs), force: slices.Clone(s.Force)}
}

func (t *talk) hasInput() bool {
	return t.read < len(t.inputs)
}

// nextInput reads a number; behind the last it is 0, and none was read.
func (t *talk) nextInput() uint64 {
	if !t.hasInput() {
		return 0
	}
	n := t.inputs[t.read]
	t.read++
	return nums.Value(n, api.I32)
}

// nextForce asks once more; behind the last answer it is no.
func (t *talk) nextForce() bool {
	n := t.asked
	t.asked++
	return n < len(t.force) && t.force[n]
}

// noted is a list with one more number, unless it has all that it may have.
func noted(list []int, v uint64) []int {
	if len(list) == api.MaxTrace {
		panic(early(api.EndLong))
	}
	return append(list, nums.Signed(v, api.I32))
}

// flag is 1 or 0.
func flag(yes bool) uint64 {
	if yes {
		return 1
	}
	return 0
}
