package exec

import (
	"slices"

	"athanor/api"
	"athanor/memory"
	"athanor/nums"
)

// program is what a module says and no run changes. It shares nothing with the module that was handed in: whoever changes that one later changes no machine.
type program struct {
	types     []api.FuncType
	functions []function     // imports first
	exports   map[string]int // the numbers of the functions that have a name for the outside
	start     []int
}

// function is one of the module's own, or one of the host's.
type function struct {
	typ    int // its type's index
	host   int // which of the host's it is, or own
	locals int // how many it has, Params apart
	body   []api.Instr
}

func newProgram(m api.Module) program {
	p := program{exports: map[string]int{}, start: slices.Clone(m.Start)}
	for _, t := range m.Types {
		p.types = append(p.types, api.FuncType{Params: slices.Clone(t.Params), Results: slices.Clone(t.Results)})
	}
	for _, x := range m.Imports {
		p.functions = append(p.functions, function{typ: x.Type, host: hostNumber(x.Name)})
	}
	for _, f := range m.Funcs {
		p.functions = append(p.functions, function{typ: f.Type, locals: len(f.Locals), body: copied(f.Body)})
	}
	for _, x := range m.Exports {
		if x.Kind == api.ExFunc {
			p.exports[x.Name] = x.Index
		}
	}
	return p
}

// copied is a list of instructions that shares nothing with the one handed in.
func copied(list []api.Instr) []api.Instr {
	out := slices.Clone(list)
	for i := range out {
		x := &out[i]
		x.Labels = slices.Clone(x.Labels)
		x.Body = copied(x.Body)
		x.Else = copied(x.Else)
	}
	return out
}

// typeOf is the type of the function of that number.
func (p *program) typeOf(n int) api.FuncType {
	return p.types[p.functions[n].typ]
}

// alike tells whether two types take and tell the same.
func alike(a, b api.FuncType) bool {
	return slices.Equal(a.Params, b.Params) && slices.Equal(a.Results, b.Results)
}

// notFilled stands for a function's number at a place of the table that has none.
const notFilled = -1

// store is what an instance has of its own: globals, a table, a memory.
type store struct {
	globals []global
	table   []int // functions' numbers
	memory  *memory.Memory
}

type global struct {
	typ   int
	value uint64
}

// newStore tells a module's store as it is ahead of all runs.
func newStore(m api.Module) (store, api.Errno) {
	var s store
	if !s.makeRoom(m) {
		return store{}, api.ErrRoom
	}
	if !s.fillTable(m.Elems) || !s.fillMemory(m.Datas) {
		return store{}, api.ErrBounds
	}
	for _, g := range m.Globals {
		s.globals = append(s.globals, global{g.Type, nums.Value(g.Init.N, g.Type)})
	}
	return s, api.OK
}

// makeRoom lays the table and the memory, with nothing in them.
func (s *store) makeRoom(m api.Module) bool {
	for _, l := range m.Tables {
		if l.Min > api.MaxTable {
			return false
		}
		s.table = slices.Repeat([]int{notFilled}, l.Min)
	}
	for _, l := range m.Mems {
		room, err := memory.New(l)
		if err != api.OK {
			return false
		}
		s.memory = room
	}
	return true
}

func (s *store) fillTable(elems []api.Elem) bool {
	for _, e := range elems {
		at := place(e.Offset)
		if at+len(e.Funcs) > len(s.table) {
			return false
		}
		copy(s.table[at:], e.Funcs)
	}
	return true
}

func (s *store) fillMemory(datas []api.Data) bool {
	for _, d := range datas {
		if !s.memory.Fill(place(d.Offset), d.Bytes) {
			return false
		}
	}
	return true
}

// place is the value of an Offset, without sign.
func place(offset api.Instr) int {
	return int(nums.Value(offset.N, api.I32))
}
