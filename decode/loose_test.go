package decode

import (
	"slices"
	"strconv"
	"strings"

	"athanor/api"
)

// This file makes modules of all kinds, and writes them in any of the ways that may be read.

// chance is numbers all over, the same each time.
type chance uint64

func (c *chance) below(n int) int {
	*c ^= *c << 13
	*c ^= *c >> 7
	*c ^= *c << 17
	return int(uint64(*c) >> 1 % uint64(n))
}

// index is a number of up to 32 bits, of any of their lengths.
func (c *chance) index() int { return c.below(1<<32) >> c.below(33) }

func (c *chance) typ() int { return 126 + c.below(2) }

// some is a list of fewer than most that one makes.
func some[T any](c *chance, most int, one func() T) []T {
	var out []T
	for range c.below(most) {
		out = append(out, one())
	}
	return out
}

func (c *chance) name() string {
	return strings.Repeat([]string{"a", "\u00e9", "\u20ac", "\U0001f600", "\x00"}[c.below(5)], c.below(17))
}

func (c *chance) limits() api.Limits {
	l := api.Limits{Min: c.index(), Has: c.below(2) == 0}
	if l.Has {
		l.Max = c.index()
	}
	return l
}

func (c *chance) constant() api.Instr {
	switch c.below(3) {
	case 0:
		return api.Instr{Op: 0x23, A: c.index()}
	case 1:
		return api.Instr{Op: 0x41, N: c.index() - 1<<31}
	}
	return api.Instr{Op: 0x42, N: c.index() * c.index() * (1 - c.below(3))}
}

// instr is an instruction of some kind, with others in it down to that depth.
func (c *chance) instr(depth int) api.Instr {
	x := api.Instr{Op: c.below(256)}
	switch what := kind(x.Op); what {
	case "none", "float":
		return c.instr(depth)
	case "b", "i":
		x.A, x.Body = []int{0, 126, 127}[c.below(3)], c.body(depth-1)
		if what == "i" && c.below(2) == 0 {
			x.Else = c.body(depth - 1)
		}
	case "lu":
		x.A, x.Labels = c.index(), some(c, 5, c.index)
	case "u", "uz":
		x.A = c.index()
	case "uv":
		x.A, x.B = c.index(), c.index()
	case "s", "S":
		return c.constant()
	}
	return x
}

func (c *chance) body(depth int) []api.Instr {
	if depth < 0 {
		return nil
	}
	return some(c, 6, func() api.Instr {
		if c.below(4) == 0 { // a block is rare among all bytes
			return api.Instr{Op: 0x04, Body: c.body(depth - 1), Else: c.body(depth - 1)}
		}
		return c.instr(depth)
	})
}

func (c *chance) module() api.Module {
	return api.Module{
		Types: some(c, 4, func() api.FuncType { return api.FuncType{Params: some(c, 5, c.typ), Results: some(c, 3, c.typ)} }),
		Imports: some(c, 4, func() api.Import {
			return api.Import{Module: c.name(), Name: c.name(), Type: c.index()}
		}),
		Funcs: some(c, 4, func() api.Func {
			return api.Func{Type: c.index(), Locals: some(c, 9, c.typ), Body: c.body(3)}
		}),
		Tables: some(c, 3, c.limits),
		Mems:   some(c, 3, c.limits),
		Globals: some(c, 4, func() api.Global {
			return api.Global{Type: c.typ(), Mut: c.below(2) == 0, Init: c.constant()}
		}),
		Exports: some(c, 4, func() api.Export { return api.Export{Name: c.name(), Kind: c.below(4), Index: c.index()} }),
		Start:   some(c, 2, c.index),
		Elems:   some(c, 4, func() api.Elem { return api.Elem{Offset: c.constant(), Funcs: some(c, 5, c.index)} }),
		Datas: some(c, 4, func() api.Data {
			return api.Data{Offset: c.constant(), Bytes: strings.Repeat(strconv.Itoa(c.below(100)), c.below(70))}
		}),
	}
}

func one(b int) string { return string([]byte{byte(b)}) }

// u is n in the fewest groups.
func u(n int) string {
	if n < 128 {
		return one(n)
	}
	return one(128+n%128) + u(n/128)
}

// groups is the lowest count groups of n, which n must fit in.
func groups(n, count int) string {
	out := make([]byte, count)
	for i := range out {
		out[i] = byte(n>>(7*i))&127 | 128
	}
	out[count-1] &= 127
	return string(out)
}

func section(id int, bytes ...string) string {
	s := strings.Join(bytes, "")
	return one(id) + u(len(s)) + s
}

// loose writes in one of the ways that may be read, as its chance has it.
type loose struct{ *chance }

func (l loose) u(n int) string {
	least := len(u(n))
	return groups(n, least+l.below(6-least))
}

func (l loose) signed(n, bits int) string {
	least, most := 1, (bits+6)/7
	for least < most && (n < -1<<(7*least-1) || n >= 1<<(7*least-1)) {
		least++
	}
	return groups(n, least+l.below(most+1-least))
}

func (l loose) text(s string) string { return l.u(len(s)) + s }

func looseList[T any](l loose, list []T, each func(T) string) string {
	out := l.u(len(list))
	for _, x := range list {
		out += each(x)
	}
	return out
}

func (l loose) limits(x api.Limits) string {
	if x.Has {
		return "\x01" + l.u(x.Min) + l.u(x.Max)
	}
	return "\x00" + l.u(x.Min)
}

func (l loose) locals(types []int) string {
	var runs []string
	run := func(count, typ int) { runs = append(runs, l.u(count)+one(typ)) }
	for len(types) > 0 {
		n := 1
		for n < len(types) && types[n] == types[0] && l.below(3) > 0 {
			n++
		}
		if l.below(4) == 0 {
			run(0, l.typ())
		}
		run(n, types[0])
		types = types[n:]
	}
	if l.below(4) == 0 {
		run(0, l.typ())
	}
	return looseList(l, runs, strings.Clone)
}

func (l loose) expr(list ...api.Instr) string { return l.instrs(list) + "\x0b" }

func (l loose) instrs(list []api.Instr) string {
	out := ""
	for _, x := range list {
		out += one(x.Op)
		for _, letter := range kind(x.Op) {
			switch letter {
			case 'b', 'i':
				out += map[int]string{0: "\x40", 126: "\x7e", 127: "\x7f"}[x.A] + l.instrs(x.Body)
				if len(x.Else) > 0 || letter == 'i' && l.below(2) == 0 {
					out += "\x05" + l.instrs(x.Else)
				}
				out += "\x0b"
			case 'u':
				out += l.u(x.A)
			case 'v':
				out += l.u(x.B)
			case 'l':
				out += looseList(l, x.Labels, l.u)
			case 'z':
				out += "\x00"
			case 's':
				out += l.signed(x.N, 32)
			case 'S':
				out += l.signed(x.N, 64)
			}
		}
	}
	return out
}

// within is what stands in each section.
func (l loose) within(m api.Module) []string {
	out := []string{
		1: looseList(l, m.Types, func(x api.FuncType) string {
			return "\x60" + looseList(l, x.Params, one) + looseList(l, x.Results, one)
		}),
		2: looseList(l, m.Imports, func(x api.Import) string { return l.text(x.Module) + l.text(x.Name) + "\x00" + l.u(x.Type) }),
		3: looseList(l, m.Funcs, func(x api.Func) string { return l.u(x.Type) }),
		4: looseList(l, m.Tables, func(x api.Limits) string { return "\x70" + l.limits(x) }),
		5: looseList(l, m.Mems, l.limits),
		6: looseList(l, m.Globals, func(x api.Global) string {
			return one(x.Type) + map[bool]string{false: "\x00", true: "\x01"}[x.Mut] + l.expr(x.Init)
		}),
		7: looseList(l, m.Exports, func(x api.Export) string { return l.text(x.Name) + one(x.Kind) + l.u(x.Index) }),
		9: looseList(l, m.Elems, func(x api.Elem) string { return "\x00" + l.expr(x.Offset) + looseList(l, x.Funcs, l.u) }),
		10: looseList(l, m.Funcs, func(x api.Func) string {
			return l.text(l.locals(x.Locals) + l.expr(x.Body...))
		}),
		11: looseList(l, m.Datas, func(x api.Data) string { return "\x00" + l.expr(x.Offset) + l.text(x.Bytes) }),
	}
	for _, n := range m.Start {
		out[8] = l.u(n)
	}
	return out
}

// customs is some custom sections, a piece each.
func (l loose) customs() []string {
	return some(l.chance, 3, func() string {
		return "\x00" + l.text(l.text(strings.Repeat(l.name(), l.below(9)))+[]string{"", "\xff\x80", "\x00asm", "\x0b"}[l.below(4)])
	})
}

// pieces is the sections of a module, those of byte 0 too, a text each; a list without entries has one or none.
func (l loose) pieces(m api.Module) []string {
	lengths := []int{0, len(m.Types), len(m.Imports), len(m.Funcs), len(m.Tables), len(m.Mems), len(m.Globals), len(m.Exports), len(m.Start), len(m.Elems), len(m.Funcs), len(m.Datas)}
	out := l.customs()
	for id, bytes := range l.within(m) {
		if lengths[id] > 0 || id > 0 && id != 8 && l.below(3) == 0 {
			out = append(out, one(id)+l.text(bytes))
		}
		out = slices.Concat(out, l.customs())
	}
	return out
}
