package exec

import (
	"slices"
	"testing"

	"athanor/api"
	"athanor/nums"
	"athanor/valid"
)

// This file holds machines against plain ones with modules that are grown by chance, and looks at what follows from the promises (P8.4, P8.5, P8.6) with them.

// chance is numbers all over, the same each time.
type chance uint64

func (c *chance) below(n int) int {
	*c ^= *c << 13
	*c ^= *c >> 7
	*c ^= *c << 17
	return int(uint64(*c) >> 1 % uint64(n))
}

// once tells true about once in n times.
func (c *chance) once(n int) bool { return c.below(n) == 0 }

func one[T any](c *chance, list ...T) T { return list[c.below(len(list))] }

// grownTypes are the types of the functions of a grown module, the host's ahead; each has a function.
var grownTypes = []string{">i", "i>", ">i", "i>i", ">", "il>l", "l>", "li>i", ">l"}

// grower writes bodies that are valid.
type grower struct {
	*chance
	m      *api.Module
	locals []int
	labels []int // the types of the labels, the innermost first
	result int   // the function's
	depth  int   // how many more may be in one another
}

// module is a module with a memory, a table, globals, and functions that call one another and the host.
func (c *chance) module() api.Module {
	m := build()
	m.Exports = m.Exports[3:]
	for _, s := range grownTypes {
		// Some stand there already: types that are alike have more than one index.
		m.Types = append(m.Types, funcTypeOf(s))
	}
	first := len(m.Types) - len(grownTypes)
	for i := 2; i < len(grownTypes); i++ {
		m.Funcs = append(m.Funcs, api.Func{Type: first + i, Locals: typesOf(one(c, "", "i", "l", "il", "lli"))})
		m.Exports = append(m.Exports, api.Export{Name: string(rune('f' + i - 2)), Index: ownFirst + i - 2})
	}
	for i := range m.Funcs {
		c.body(&m, &m.Funcs[i])
	}
	for range c.below(5) {
		m.Elems = append(m.Elems, api.Elem{Offset: number32(c.below(5)), Funcs: []int{c.below(ownFirst + len(m.Funcs)), c.below(ownFirst + len(m.Funcs)), c.below(ownFirst + len(m.Funcs))}})
	}
	for range c.below(3) {
		m.Datas = append(m.Datas, api.Data{Offset: number32(one(c, 0, 3, 65530, 65536-16)), Bytes: one(c, "", "a\x80", "\xff\xfe\xfd\xfc\xfb\xfa")})
	}
	if c.once(3) {
		m.Start = []int{ownFirst + 2}
	}
	return m
}

func (c *chance) body(m *api.Module, f *api.Func) {
	t := m.Types[f.Type]
	g := &grower{chance: c, m: m, locals: slices.Concat(t.Params, f.Locals), depth: 1 + c.below(6)}
	for _, typ := range t.Results {
		g.result = typ
	}
	f.Body = g.list(g.result, g.result)
}

// list is what stands in a block: it leaves a value of the type end, or nothing.
func (g *grower) list(label, end int) []api.Instr {
	g.labels = slices.Insert(g.labels, 0, label)
	var out []api.Instr
	for range g.below(4) {
		out = append(out, g.effect()...)
	}
	out = append(out, g.some(end)...)
	g.labels = g.labels[1:]
	return out
}

// some is instructions that leave one value of a type, or nothing.
func (g *grower) some(typ int) []api.Instr {
	if typ == api.None {
		return nil
	}
	return g.value(typ)
}

func (g *grower) values(types ...int) []api.Instr {
	var out []api.Instr
	for _, typ := range types {
		out = append(out, g.value(typ)...)
	}
	return out
}

// behind is instructions with one more behind them.
func behind(list []api.Instr, x api.Instr) []api.Instr { return append(list, x) }

func (g *grower) value(typ int) []api.Instr {
	if g.depth == 0 {
		return g.simple(typ)
	}
	g.depth--
	defer func() { g.depth++ }()
	switch g.below(16) {
	case 0, 1, 2:
		return g.reckoned(typ)
	case 3:
		op := one(g.chance, 0x28, 0x2c, 0x2d, 0x2e, 0x2f)
		if typ == api.I64 {
			op = one(g.chance, 0x29, 0x30, 0x31, 0x32, 0x33, 0x34, 0x35)
		}
		return behind(g.place(), api.Instr{Op: op, B: g.offset()})
	case 4:
		return []api.Instr{{Op: 0x02, A: typ, Body: g.list(typ, typ)}}
	case 5:
		return []api.Instr{{Op: 0x03, A: typ, Body: g.list(api.None, typ)}}
	case 6, 7:
		return behind(g.value(api.I32), api.Instr{Op: 0x04, A: typ, Body: g.list(typ, typ), Else: g.list(typ, typ)})
	case 8, 9:
		return g.called(typ)
	case 10:
		return behind(g.values(typ, typ, api.I32), api.Instr{Op: 0x1b})
	case 11:
		return append(g.effect(), g.value(typ)...)
	case 12:
		if n := slices.Index(g.labels, typ); n >= 0 {
			return behind(g.values(typ, api.I32), api.Instr{Op: 0x0d, A: n})
		}
	case 13:
		if n := slices.Index(g.locals, typ); n >= 0 {
			return behind(g.value(typ), api.Instr{Op: 0x22, A: n})
		}
	case 14:
		if typ == api.I32 && g.once(3) {
			return behind(g.value(api.I32), api.Instr{Op: 0x40})
		}
	case 15:
		if g.once(3) {
			return g.jump()
		}
	}
	return g.simple(typ)
}

func (g *grower) simple(typ int) []api.Instr {
	if g.once(2) {
		for range 4 {
			if len(g.locals) > 0 {
				if n := g.below(len(g.locals)); g.locals[n] == typ {
					return []api.Instr{{Op: 0x20, A: n}}
				}
			}
		}
	}
	if typ == api.I32 {
		switch g.below(8) {
		case 0:
			return []api.Instr{{Op: 0x23, A: one(g.chance, 0, 2)}}
		case 1:
			return []api.Instr{{Op: 0x3f}}
		case 2:
			return []api.Instr{{Op: 0x10, A: one(g.chance, 0, 1, 4)}}
		}
		return []api.Instr{number32(one(g.chance, 0, 0, 1, 1, 2, 3, 4, 5, 7, 8, -1, 65535, 65536, 1<<31-1, -1<<31, g.below(1<<32)-1<<31))}
	}
	if g.once(5) {
		return []api.Instr{{Op: 0x23, A: one(g.chance, 1, 3)}}
	}
	return []api.Instr{number64(one(g.chance, 0, 1, 2, -1, 63, 1<<31, 1<<63-1, -1<<63, g.below(1<<62)*2+1))}
}

// place is most often where bytes are.
func (g *grower) place() []api.Instr {
	if g.once(4) {
		return g.value(api.I32)
	}
	return []api.Instr{number32(one(g.chance, 0, 1, 8, 100, 65520, 65528, 65532, 65534, 65535))}
}

func (g *grower) offset() int {
	return one(g.chance, 0, 0, 0, 0, 1, 4, 65528, 65536, 1<<32-1)
}

// reckoned is an instruction of chapter 2 that tells that type.
func (g *grower) reckoned(typ int) []api.Instr {
	if g.once(20) {
		return g.greatest(typ)
	}
	for {
		op := g.below(256)
		if params, result, ok := nums.Sig(op); ok && result == typ {
			return behind(g.values(params...), api.Instr{Op: op})
		}
	}
}

// greatest is a division of what is farthest below 0, most often by -1.
func (g *grower) greatest(typ int) []api.Instr {
	first, by, op := number32(-1<<31), number32(-1), one(g.chance, 0x6d, 0x6f)
	if typ == api.I64 {
		first, by, op = number64(-1<<63), number64(-1), one(g.chance, 0x7f, 0x81)
	}
	if g.once(4) {
		return behind(append([]api.Instr{first}, g.value(typ)...), api.Instr{Op: op})
	}
	return []api.Instr{first, by, {Op: op}}
}

// called is a call of one of the functions with that result, by its number or by the table.
func (g *grower) called(result int) []api.Instr {
	for {
		n := g.below(ownFirst + len(g.m.Funcs))
		typ := typeNumber(*g.m, n)
		t := g.m.Types[typ]
		if result == api.None && len(t.Results) > 0 || result != api.None && !slices.Equal(t.Results, []int{result}) {
			continue
		}
		if g.once(3) {
			place := []api.Instr{number32(one(g.chance, 0, 1, 2, 3, 4, 5, 6, 7, 8))}
			return behind(append(g.values(t.Params...), place...), api.Instr{Op: 0x11, A: typ})
		}
		return behind(g.values(t.Params...), api.Instr{Op: 0x10, A: n})
	}
}

// effect is instructions that leave nothing.
func (g *grower) effect() []api.Instr {
	if g.depth == 0 {
		return []api.Instr{{Op: 0x01}}
	}
	g.depth--
	defer func() { g.depth++ }()
	switch g.below(14) {
	case 0:
		return behind(g.value(one(g.chance, api.I32, api.I64)), api.Instr{Op: 0x1a})
	case 1:
		n := g.below(2)
		return behind(g.value(g.m.Globals[n].Type), api.Instr{Op: 0x24, A: n})
	case 2, 3:
		if len(g.locals) > 0 {
			n := g.below(len(g.locals))
			return behind(g.value(g.locals[n]), api.Instr{Op: 0x21, A: n})
		}
	case 4:
		return behind(append(g.place(), g.value(api.I32)...), api.Instr{Op: one(g.chance, 0x36, 0x3a, 0x3b), B: g.offset()})
	case 5:
		return behind(append(g.place(), g.value(api.I64)...), api.Instr{Op: one(g.chance, 0x37, 0x3c, 0x3d, 0x3e), B: g.offset()})
	case 6:
		return []api.Instr{{Op: one(g.chance, 0x02, 0x03), Body: g.list(api.None, api.None)}}
	case 7:
		return g.counted()
	case 8:
		return behind(g.value(api.I32), api.Instr{Op: 0x04, Body: g.list(api.None, api.None), Else: g.list(api.None, api.None)})
	case 9, 10:
		return g.called(api.None)
	case 11:
		if n := slices.Index(g.labels, api.None); n >= 0 {
			return behind(g.value(api.I32), api.Instr{Op: 0x0d, A: n})
		}
	case 12:
		// What is behind a jump in a block of its own is not run.
		if g.once(2) {
			g.labels = slices.Insert(g.labels, 0, api.None)
			out := []api.Instr{{Op: 0x02, Body: g.jump()}}
			g.labels = g.labels[1:]
			return out
		}
	}
	return []api.Instr{{Op: 0x01}}
}

// counted is a loop that ends some time, if there is a local to count with.
func (g *grower) counted() []api.Instr {
	n := slices.Index(g.locals, api.I32)
	if n < 0 {
		return []api.Instr{{Op: 0x03, Body: g.list(api.None, api.None)}}
	}
	body := g.list(api.None, api.None)
	body = append(body, api.Instr{Op: 0x20, A: n}, number32(1), api.Instr{Op: 0x6b}, api.Instr{Op: 0x22, A: n}, number32(0), api.Instr{Op: 0x4a}, api.Instr{Op: 0x0d})
	return []api.Instr{number32(g.below(40)), {Op: 0x21, A: n}, {Op: 0x03, Body: body}}
}

// jump is instructions that go elsewhere, with values below what they take along.
func (g *grower) jump() []api.Instr {
	var out []api.Instr
	for range g.below(3) {
		out = append(out, g.value(one(g.chance, api.I32, api.I64))...)
	}
	n := g.below(len(g.labels))
	switch g.below(6) {
	case 0:
		out = append(out, api.Instr{Op: 0x00})
	case 1, 2:
		out = behind(append(out, g.some(g.labels[n])...), api.Instr{Op: 0x0c, A: n})
	case 3:
		out = behind(append(out, g.some(g.result)...), api.Instr{Op: 0x0f})
	default:
		var labels []int
		for i, typ := range g.labels {
			if typ == g.labels[n] {
				labels = append(labels, i)
			}
		}
		labels = labels[:g.below(len(labels)+1)]
		out = append(append(out, g.some(g.labels[n])...), g.value(api.I32)...)
		out = append(out, api.Instr{Op: 0x0e, A: n, Labels: labels})
	}
	return append(out, api.Instr{Op: 0x00})
}

func (c *chance) script() api.Script {
	var s api.Script
	for range c.below(8) {
		s.Inputs = append(s.Inputs, one(c, 0, 1, -1, 1<<32+5, c.below(1<<62)))
	}
	for range c.below(8) {
		s.Force = append(s.Force, c.once(2))
	}
	return s
}

// ask is one Call of a machine.
type ask struct {
	name string
	args []int
	fuel int
}

func (c *chance) ask(m api.Module) ask {
	x := one(c, m.Exports...)
	for x.Index < ownFirst && !c.once(5) {
		x = one(c, m.Exports...)
	}
	a := ask{name: x.Name, fuel: one(c, 0, 1, 10, 100, 1000, 5000, 5000, 30000)}
	for range typeOfExport(m, x.Name).Params {
		a.args = append(a.args, one(c, 0, 1, 2, 3, 10, -1, 65535, 1<<32+1, c.below(1<<62)))
	}
	return a
}

// checkGrown holds a machine of a grown module against a plain one, over some calls, and counts how they end.
func checkGrown(t *testing.T, seed uint64, ends map[[2]int]int) {
	t.Helper()
	c := chance(seed | 1)
	m, s := c.module(), c.script()
	if err := valid.Validate(m); err != api.OK {
		t.Fatalf("%d: the module that was grown is not valid: %v", seed, err)
	}
	x, err := newPair(t, "grown", m, s)
	if err != api.OK {
		t.Fatalf("%d: %v", seed, err)
	}
	twin, _ := New(m, s)
	if c.once(4) {
		x.almostLong(twin)
	}
	for range 4 {
		a := c.ask(m)
		o := x.call(t, "grown", a.name, a.args, a.fuel)
		ends[[2]int{o.End, o.Trap}]++
		checkNotStuck(t, m, a.name, o)
		// A machine of the same module and script does the same.
		again, _ := twin.Call(a.name, a.args, a.fuel)
		checkOutcome(t, "a twin", again, o)
	}
	x.checkMemory(t, "grown")
	checkMoreFuel(t, &c, m, s)
}

// almostLong notes nearly as many numbers as may be noted.
func (c pair) almostLong(twin *Machine) {
	for _, list := range []*[]int{&c.x.writes, &c.x.shows, &c.p.writes, &c.p.shows, &twin.writes, &twin.shows} {
		*list = make([]int, api.MaxTrace-2)
	}
}

// typeNumber is the index of the type of a function.
func typeNumber(m api.Module, n int) int {
	if n < ownFirst {
		return m.Imports[n].Type
	}
	return m.Funcs[n-ownFirst].Type
}

// typeOfExport is the type of an exported function.
func typeOfExport(m api.Module, name string) api.FuncType {
	n := slices.IndexFunc(m.Exports, func(x api.Export) bool { return x.Name == name })
	return m.Types[typeNumber(m, m.Exports[n].Index)]
}

// checkNotStuck wants one of the five ends, and Results of the function's type just where it is EndDone.
func checkNotStuck(t *testing.T, m api.Module, name string, o api.Outcome) {
	t.Helper()
	results := typeOfExport(m, name).Results
	if o.End < api.EndDone || o.End > api.EndLong || (o.End == api.EndTrap) != (o.Trap != 0) || o.Trap < 0 || o.Trap > api.TrapType {
		t.Errorf("%+v", o)
	}
	if o.End != api.EndDone {
		results = nil
	}
	if len(o.Results) != len(results) {
		t.Fatalf("%+v, want results of %v", o, results)
	}
	for i, v := range o.Results {
		if results[i] == api.I32 && v != int(int32(v)) {
			t.Errorf("%+v: no I32", o)
		}
	}
}

// checkMoreFuel calls with a fuel, and with others: what ended otherwise than for its fuel ends so with more of it, and for its fuel with less.
func checkMoreFuel(t *testing.T, c *chance, m api.Module, s api.Script) {
	t.Helper()
	a := c.ask(m)
	x, _ := New(m, s)
	whole, _ := x.Call(a.name, a.args, a.fuel)
	fuels := []int{whole.Steps, whole.Steps + 1, a.fuel + 1, a.fuel + 10000}
	if whole.Steps > 0 {
		fuels = append(fuels, whole.Steps-1, c.below(whole.Steps))
	}
	for _, fuel := range fuels {
		x, _ := New(m, s)
		o, err := x.Call(a.name, a.args, fuel)
		switch {
		case err != api.OK:
			t.Error(err)
		case fuel < whole.Steps:
			if o.End != api.EndFuel || o.Steps != fuel || !begins(o.Writes, whole.Writes) || !begins(o.Shows, whole.Shows) {
				t.Errorf("fuel %d: %+v, of %+v", fuel, o, whole)
			}
		case whole.End != api.EndFuel:
			checkOutcome(t, "with more fuel", o, whole)
		default:
			if o.Steps < whole.Steps || !begins(whole.Writes, o.Writes) || !begins(whole.Shows, o.Shows) {
				t.Errorf("fuel %d: %+v, of %+v", fuel, o, whole)
			}
		}
	}
}

// begins tells whether a list is a beginning of another.
func begins(a, b []int) bool {
	return len(a) <= len(b) && slices.Equal(a, b[:len(a)])
}

func TestGrownModules(t *testing.T) {
	ends := map[[2]int]int{}
	for seed := range uint64(3000) {
		checkGrown(t, seed*2654435761+12345, ends)
	}
	for end := api.EndDone; end <= api.EndLong; end++ {
		for trap := range api.TrapType + 1 {
			if (end == api.EndTrap) == (trap > 0) && ends[[2]int{end, trap}] < 20 {
				t.Errorf("end %d, trap %d: %d times alone", end, trap, ends[[2]int{end, trap}])
			}
		}
	}
}

func FuzzModules(f *testing.F) {
	f.Add(uint64(1))
	f.Add(uint64(1) << 63)
	f.Fuzz(func(t *testing.T, seed uint64) { checkGrown(t, seed, map[[2]int]int{}) })
}
