package exec

import (
	"maps"
	"reflect"
	"slices"
	"testing"

	"athanor/api"
	"athanor/nums"
	"athanor/valid"
)

// This file holds the chapter's words once more: a machine that has no stack of its own, but a list of values in each list of instructions that has been begun, that steps in one loop, and whose memory is bytes that are put one by one.

// plain is such a machine.
type plain struct {
	m             api.Module
	s             api.Script
	globals       []uint64
	table         map[uint64]int // the places that are filled
	bytes         map[uint64]byte
	pages, most   int
	started       bool
	read, asked   int
	writes, shows []int
}

func plainNew(m api.Module, s api.Script) (*plain, api.Errno) {
	if err := valid.Validate(m); err != api.OK {
		return nil, err
	}
	if len(s.Inputs) > 256 || len(s.Force) > 65536 {
		return nil, api.ErrArg
	}
	for _, x := range m.Imports {
		if t := m.Types[x.Type]; x.Module != "env" || plainHosts[x.Name] != plainType(t) {
			return nil, api.ErrLink
		}
	}
	p := &plain{m: m, s: s, table: map[uint64]int{}, bytes: map[uint64]byte{}}
	if p.places() > 4096 || len(m.Mems) > 0 && m.Mems[0].Min > 32 {
		return nil, api.ErrRoom
	}
	for _, l := range m.Mems {
		p.pages, p.most = l.Min, 32
		if l.Has {
			p.most = min(l.Max, 32)
		}
	}
	if !p.fill() {
		return nil, api.ErrBounds
	}
	for _, g := range m.Globals {
		p.globals = append(p.globals, nums.Value(g.Init.N, g.Type))
	}
	return p, api.OK
}

// plainHosts are the host's functions and their types, as letters.
var plainHosts = map[string]string{"read": ">i", "more": ">i", "write": "i>", "show": "i>", "force": ">i"}

func plainType(t api.FuncType) string {
	out := ""
	for _, typ := range t.Params {
		out += map[int]string{127: "i", 126: "l"}[typ]
	}
	out += ">"
	for _, typ := range t.Results {
		out += map[int]string{127: "i", 126: "l"}[typ]
	}
	return out
}

// places is how many places the table has.
func (p *plain) places() uint64 {
	for _, l := range p.m.Tables {
		return uint64(l.Min)
	}
	return 0
}

func (p *plain) fill() bool {
	for _, e := range p.m.Elems {
		at := uint64(uint32(e.Offset.N))
		if at > p.places() || uint64(len(e.Funcs)) > p.places()-at {
			return false
		}
		for i, n := range e.Funcs {
			p.table[at+uint64(i)] = n
		}
	}
	there := uint64(p.pages) * 65536
	for _, d := range p.m.Datas {
		at := uint64(uint32(d.Offset.N))
		if at > there || uint64(len(d.Bytes)) > there-at {
			return false
		}
		for i := range len(d.Bytes) {
			p.bytes[at+uint64(i)] = d.Bytes[i]
		}
	}
	return true
}

func (p *plain) typeOf(n int) api.FuncType {
	if n < len(p.m.Imports) {
		return p.m.Types[p.m.Imports[n].Type]
	}
	return p.m.Types[p.m.Funcs[n-len(p.m.Imports)].Type]
}

func (p *plain) call(name string, args []int, fuel int) (api.Outcome, api.Errno) {
	n := slices.IndexFunc(p.m.Exports, func(x api.Export) bool { return x.Name == name && x.Kind == 0 })
	if n < 0 {
		return api.Outcome{}, api.ErrExport
	}
	n = p.m.Exports[n].Index
	t := p.typeOf(n)
	if len(args) != len(t.Params) || fuel < 0 || fuel > 1<<22 {
		return api.Outcome{}, api.ErrArg
	}
	r := &plainRun{plain: p, fuel: fuel}
	if !p.started {
		p.started = true
		for _, n := range p.m.Start {
			r.toEnd(n, nil)
		}
	}
	if r.end == 0 {
		var values []uint64
		for i, typ := range t.Params {
			values = append(values, nums.Value(args[i], typ))
		}
		r.toEnd(n, values)
	}
	out := api.Outcome{End: r.end, Trap: r.trap, Writes: slices.Clone(p.writes), Shows: slices.Clone(p.shows), Steps: r.steps, Asked: p.asked, Read: p.read}
	if r.end == 0 {
		out.End = api.EndDone
		for i, typ := range t.Results {
			out.Results = append(out.Results, nums.Signed(r.told[i], typ))
		}
	}
	return out, api.OK
}

// begun is a list of instructions that has been begun, and what it has pushed.
type begun struct {
	rest   []api.Instr
	again  []api.Instr // what a br to it goes to; nil: behind it
	takes  int         // how many values a br to it takes along
	values []uint64
	locals []uint64
	body   bool
}

type plainRun struct {
	*plain
	lists       []begun
	told        []uint64 // behind the end
	fuel, steps int
	end, trap   int // 0, as long as it goes on
}

func (r *plainRun) inner() *begun { return &r.lists[len(r.lists)-1] }

func (r *plainRun) pop() uint64 {
	l := r.inner()
	v := l.values[len(l.values)-1]
	l.values = l.values[:len(l.values)-1]
	return v
}

func (r *plainRun) pops(n int) []uint64 {
	out := make([]uint64, n)
	for i := range out {
		out[n-1-i] = r.pop()
	}
	return out
}

// push puts values where the run is: in the innermost list, or behind its end.
func (r *plainRun) push(values ...uint64) {
	if len(r.lists) == 0 {
		r.told = append(r.told, values...)
		return
	}
	r.inner().values = append(r.inner().values, values...)
}

// toEnd calls a function and steps until nothing is left to do.
func (r *plainRun) toEnd(n int, args []uint64) {
	r.told = nil
	r.enter(n, args, 0)
	for r.end == 0 && len(r.lists) > 0 {
		l := r.inner()
		if len(l.rest) == 0 {
			r.lists = r.lists[:len(r.lists)-1]
			r.push(l.values...)
			continue
		}
		if r.steps == r.fuel {
			r.end = api.EndFuel
			return
		}
		r.steps++
		x := l.rest[0]
		l.rest = l.rest[1:]
		r.step(x)
	}
}

// enter begins a function; gone is how many values were taken off ahead of it.
func (r *plainRun) enter(n int, args []uint64, gone int) {
	if n < len(r.m.Imports) {
		r.host(r.m.Imports[n].Name, args)
		return
	}
	calls, values := 0, gone
	for _, l := range r.lists {
		values += len(l.values)
		if l.body {
			calls++
		}
	}
	if calls >= 512 || values > 65536 {
		r.end = api.EndDepth
		return
	}
	f := r.m.Funcs[n-len(r.m.Imports)]
	r.lists = append(r.lists, begun{rest: f.Body, takes: len(r.typeOf(n).Results), locals: append(slices.Clone(args), make([]uint64, len(f.Locals))...), body: true})
}

func (r *plainRun) host(name string, args []uint64) {
	switch name {
	case "read":
		v := uint64(0)
		if r.read < len(r.s.Inputs) {
			v = uint64(uint32(r.s.Inputs[r.read]))
			r.read++
		}
		r.push(v)
	case "more":
		r.pushIf(r.read < len(r.s.Inputs))
	case "force":
		r.pushIf(r.asked < len(r.s.Force) && r.s.Force[r.asked])
		r.asked++
	case "write":
		r.note(&r.writes, args[0])
	case "show":
		r.note(&r.shows, args[0])
	}
}

func (r *plainRun) pushIf(yes bool) {
	if yes {
		r.push(1)
	} else {
		r.push(0)
	}
}

func (r *plainRun) note(list *[]int, v uint64) {
	if len(*list) >= 4096 {
		r.end = api.EndLong
		return
	}
	*list = append(*list, int(int32(v)))
}

func (r *plainRun) stop(trap int) { r.end, r.trap = api.EndTrap, trap }

// branch goes to the label of the n-th list, the innermost first.
func (r *plainRun) branch(n int) {
	at := len(r.lists) - 1 - n
	to := r.lists[at]
	values := r.pops(to.takes)
	if to.again != nil {
		r.lists = r.lists[:at+1]
		r.inner().rest, r.inner().values = to.again, values
		return
	}
	r.lists = r.lists[:at]
	r.push(values...)
}

// open begins a list within the innermost one.
func (r *plainRun) open(list, again []api.Instr, takes int) {
	r.lists = append(r.lists, begun{rest: list, again: again, takes: takes, locals: r.inner().locals})
}

func (r *plainRun) step(x api.Instr) {
	takes := 0
	if x.A != 0 {
		takes = 1
	}
	switch x.Op {
	case 0x00:
		r.stop(api.TrapStop)
	case 0x01:
	case 0x02:
		r.open(x.Body, nil, takes)
	case 0x03:
		r.open(x.Body, append([]api.Instr{}, x.Body...), 0)
	case 0x04:
		if r.pop() != 0 {
			r.open(x.Body, nil, takes)
		} else {
			r.open(x.Else, nil, takes)
		}
	case 0x0c:
		r.branch(x.A)
	case 0x0d:
		if r.pop() != 0 {
			r.branch(x.A)
		}
	case 0x0e:
		n := r.pop()
		all := append(slices.Clone(x.Labels), x.A)
		r.branch(all[min(n, uint64(len(x.Labels)))])
	case 0x0f:
		n := 0
		for !r.lists[len(r.lists)-1-n].body {
			n++
		}
		r.branch(n)
	case 0x10:
		args := r.pops(len(r.typeOf(x.A).Params))
		r.enter(x.A, args, len(args))
	case 0x11:
		r.indirect(x.A)
	default:
		r.simple(x)
	}
}

func (r *plainRun) indirect(typ int) {
	at := r.pop()
	n, filled := r.table[at]
	switch {
	case at >= r.places():
		r.stop(api.TrapTable)
	case !filled:
		r.stop(api.TrapEmpty)
	case plainType(r.typeOf(n)) != plainType(r.m.Types[typ]):
		r.stop(api.TrapType)
	default:
		args := r.pops(len(r.m.Types[typ].Params))
		r.enter(n, args, len(args)+1)
	}
}

// simple does what goes on behind it, if there is no trap.
func (r *plainRun) simple(x api.Instr) {
	locals := r.inner().locals
	switch x.Op {
	case 0x1a:
		r.pop()
	case 0x1b:
		l := r.pops(3)
		if l[2] == 0 {
			r.push(l[1])
		} else {
			r.push(l[0])
		}
	case 0x20:
		r.push(locals[x.A])
	case 0x21:
		locals[x.A] = r.pop()
	case 0x22:
		locals[x.A] = r.pop()
		r.push(locals[x.A])
	case 0x23:
		r.push(r.globals[x.A])
	case 0x24:
		r.globals[x.A] = r.pop()
	case 0x3f:
		r.push(uint64(r.pages))
	case 0x40:
		n := int(r.pop())
		if r.pages+n > r.most {
			r.push(1<<32 - 1)
			return
		}
		r.push(uint64(r.pages))
		r.pages += n
	case 0x41:
		r.push(uint64(uint32(x.N)))
	case 0x42:
		r.push(uint64(x.N))
	default:
		if a, ok := accesses[x.Op]; ok {
			r.access(x, a)
		} else {
			r.reckon(x.Op)
		}
	}
}

// access is a load or a store: its bytes, the bits of its value, and whether it is filled with the sign.
type access struct {
	size, bits   int
	sign, stores bool
}

var accesses = map[int]access{
	0x28: {4, 32, false, false}, 0x29: {8, 64, false, false},
	0x2c: {1, 32, true, false}, 0x2d: {1, 32, false, false}, 0x2e: {2, 32, true, false}, 0x2f: {2, 32, false, false},
	0x30: {1, 64, true, false}, 0x31: {1, 64, false, false}, 0x32: {2, 64, true, false}, 0x33: {2, 64, false, false}, 0x34: {4, 64, true, false}, 0x35: {4, 64, false, false},
	0x36: {4, 32, false, true}, 0x37: {8, 64, false, true}, 0x3a: {1, 32, false, true}, 0x3b: {2, 32, false, true}, 0x3c: {1, 64, false, true}, 0x3d: {2, 64, false, true}, 0x3e: {4, 64, false, true},
}

func (r *plainRun) access(x api.Instr, a access) {
	v := uint64(0)
	if a.stores {
		v = r.pop()
	}
	at := r.pop() + uint64(x.B)
	if at+uint64(a.size) > uint64(r.pages)*65536 {
		r.stop(api.TrapBounds)
		return
	}
	if a.stores {
		for i := range a.size {
			r.bytes[at+uint64(i)] = byte(v)
			v /= 256
		}
		return
	}
	for i := a.size - 1; i >= 0; i-- {
		v = v*256 + uint64(r.bytes[at+uint64(i)])
	}
	if a.sign && r.bytes[at+uint64(a.size)-1] >= 128 {
		for bit := 8 * a.size; bit < a.bits; bit++ {
			v += 1 << bit
		}
	}
	r.push(v)
}

func (r *plainRun) reckon(op int) {
	params, _, _ := nums.Sig(op)
	l := r.pops(len(params))
	if len(l) == 1 {
		v, _ := nums.Unary(op, l[0])
		r.push(v)
		return
	}
	v, trap, _ := nums.Binary(op, l[0], l[1])
	if trap != 0 {
		r.stop(trap)
		return
	}
	r.push(v)
}

// memoryBytes is all bytes that there are.
func (p *plain) memoryBytes() string {
	out := make([]byte, p.pages*65536)
	for at, b := range maps.All(p.bytes) {
		out[at] = b
	}
	return string(out)
}

// pair is a machine, and the plain one that it is held against.
type pair struct {
	x *Machine
	p *plain
}

// newPair wants the error that the plain machine tells.
func newPair(t *testing.T, what string, m api.Module, s api.Script) (pair, api.Errno) {
	t.Helper()
	x, err := New(m, s)
	p, want := plainNew(m, s)
	if err != want || (x == nil) != (err != api.OK) {
		t.Fatalf("%s: New: %v, want %v", what, err, want)
	}
	return pair{x, p}, err
}

// call wants what the plain machine tells, and that both have become the same.
func (c pair) call(t *testing.T, what, name string, args []int, fuel int) api.Outcome {
	t.Helper()
	want, bad := c.p.call(name, args, fuel)
	got, err := c.x.Call(name, args, fuel)
	if err != bad || !sameOutcome(got, want) {
		t.Fatalf("%s: Call(%q, %v, %d): %+v, %v, want %+v, %v", what, name, args, fuel, got, err, want, bad)
	}
	for i, v := range c.p.globals {
		n, ok := c.x.Global(i)
		if !ok || n != nums.Signed(v, c.p.m.Globals[i].Type) {
			t.Fatalf("%s: behind Call(%q, %v, %d) the global %d is %d, %v, want %d", what, name, args, fuel, i, n, ok, v)
		}
	}
	if c.x.Memory().Pages() != c.p.pages {
		t.Fatalf("%s: behind Call(%q, %v, %d) there are %d pages, want %d", what, name, args, fuel, c.x.Memory().Pages(), c.p.pages)
	}
	return got
}

// checkMemory wants the plain machine's bytes.
func (c pair) checkMemory(t *testing.T, what string) {
	t.Helper()
	if got, _ := c.x.Memory().Text(0, c.p.pages*65536); got != c.p.memoryBytes() {
		t.Fatalf("%s: the memories differ", what)
	}
}

// sameOutcome takes nil and empty lists for one.
func sameOutcome(a, b api.Outcome) bool {
	for _, o := range []*api.Outcome{&a, &b} {
		o.Results, o.Writes, o.Shows = append([]int{}, o.Results...), append([]int{}, o.Writes...), append([]int{}, o.Shows...)
	}
	return reflect.DeepEqual(a, b)
}
