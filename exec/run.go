package exec

import (
	"athanor/api"
	"athanor/nums"
)

// The instructions that are no loads, no stores, and do more than reckon, by their bytes.
const (
	opUnreachable  = 0x00
	opNop          = 0x01
	opBlock        = 0x02
	opLoop         = 0x03
	opIf           = 0x04
	opBr           = 0x0c
	opBrIf         = 0x0d
	opBrTable      = 0x0e
	opReturn       = 0x0f
	opCall         = 0x10
	opCallIndirect = 0x11
	opDrop         = 0x1a
	opSelect       = 0x1b
	opLocalGet     = 0x20
	opLocalSet     = 0x21
	opLocalTee     = 0x22
	opGlobalGet    = 0x23
	opGlobalSet    = 0x24
	opLastLoad     = 0x35
	opLastStore    = 0x3e
	opSize         = 0x3f // the memory's size
	opGrow         = 0x40 // the memory grows
	opConst32      = 0x41
	opConst64      = 0x42
)

// Where a run goes behind an instruction: to what follows, to the label of that number from the innermost on, or out of the body, which is beyond all labels.
const (
	onward    = -1
	innermost = 0
	outOfBody = 1 << 32
)

// trap is a trap, given up with from however deep within; it is caught by its type.
type trap int

// early is an end ahead of the last instruction that is no trap.
type early int

// run is one Call of a machine: its stacks are its own, so that the next one's are empty, whatever the end is.
type run struct {
	*Machine
	stacks
	fuel, steps int
	calls       int // of the module's functions, in one another
}

// stacks are those of all calls, one call's behind the other's.
type stacks struct {
	values []uint64
	locals []uint64
	base   int // where the innermost call's locals begin
}

func (s *stacks) push(v uint64) {
	s.values = append(s.values, v)
}

func (s *stacks) pop() uint64 {
	last := len(s.values) - 1
	v := s.values[last]
	s.values = s.values[:last]
	return v
}

func (s *stacks) top() uint64 {
	return s.values[len(s.values)-1]
}

// keep takes the last values along, and drops all others that came behind that height.
func (s *stacks) keep(height, count int) {
	copy(s.values[height:], s.values[len(s.values)-count:])
	s.values = s.values[:height+count]
}

// toEnd runs the Start, where it was not run yet, and the function of that number, and tells the end and the results.
func (r *run) toEnd(n int, args []int) (out api.Outcome) {
	defer func() {
		switch end := recover().(type) {
		case trap:
			out.End, out.Trap = api.EndTrap, int(end)
		case early:
			out.End = int(end)
		}
	}()
	r.startOnce()
	t := r.typeOf(n)
	for i, typ := range t.Params {
		r.push(nums.Value(args[i], typ))
	}
	r.call(n, 0)
	out.End = api.EndDone
	for i, typ := range t.Results {
		out.Results = append(out.Results, nums.Signed(r.values[i], typ))
	}
	return out
}

// startOnce runs the Start ahead of a machine's first run.
func (r *run) startOnce() {
	if r.started {
		return
	}
	r.started = true
	for _, n := range r.start {
		r.call(n, 0)
	}
}

// call calls the function of that number. Taken is how many values went off the stack for the call itself, ahead of those that the function takes.
func (r *run) call(n, taken int) {
	f := &r.functions[n]
	if f.host != own {
		r.ask(f.host)
		return
	}
	if r.calls == api.MaxCalls || len(r.values)+taken > api.MaxStack {
		panic(early(api.EndDepth))
	}
	r.calls++
	r.within(f)
	r.calls--
}

// within runs the body of a function with locals of its own.
func (r *run) within(f *function) {
	t := r.types[f.typ]
	height, outer := len(r.values)-len(t.Params), r.base
	r.base = len(r.locals)
	r.locals = append(r.locals, r.values[height:]...)
	r.locals = append(r.locals, make([]uint64, f.locals)...)
	r.values = r.values[:height]
	if r.list(f.body) != onward {
		r.keep(height, len(t.Results))
	}
	r.locals = r.locals[:r.base]
	r.base = outer
}

// indirect calls the function at a place of the table.
func (r *run) indirect(typ int) {
	at := r.pop()
	if at >= uint64(len(r.table)) {
		panic(trap(api.TrapTable))
	}
	n := r.table[at]
	if n == notFilled {
		panic(trap(api.TrapEmpty))
	}
	if !alike(r.typeOf(n), r.types[typ]) {
		panic(trap(api.TrapType))
	}
	r.call(n, 1)
}

// ask calls one of the host's functions.
func (r *run) ask(host int) {
	switch host {
	case hostRead:
		r.push(r.nextInput())
	case hostMore:
		r.push(flag(r.hasInput()))
	case hostWrite:
		r.writes = noted(r.writes, r.pop())
	case hostShow:
		r.shows = noted(r.shows, r.pop())
	case hostForce:
		r.push(flag(r.nextForce()))
	}
}

// list runs instructions, and tells where it goes behind them.
func (r *run) list(list []api.Instr) int {
	for i := range list {
		if r.steps == r.fuel {
			panic(early(api.EndFuel))
		}
		r.steps++
		if to := r.step(&list[i]); to != onward {
			return to
		}
	}
	return onward
}

// outward is where it goes behind a block out of which it goes to a label that is not the block's.
func outward(to int) int {
	if to == onward {
		return onward
	}
	return to - 1
}

// block runs the instructions of a block, or one list of an if.
func (r *run) block(list []api.Instr, result int) int {
	height := len(r.values)
	to := r.list(list)
	if to != innermost {
		return outward(to)
	}
	r.keep(height, resultCount(result))
	return onward
}

// resultCount is how many values a block leaves.
func resultCount(result int) int {
	if result == api.None {
		return 0
	}
	return 1
}

// loop runs the instructions of a loop, and again as often as it goes to the loop's label.
func (r *run) loop(list []api.Instr) int {
	height := len(r.values)
	for {
		to := r.list(list)
		if to != innermost {
			return outward(to)
		}
		r.keep(height, 0)
	}
}

// choose runs one of the lists of an if.
func (r *run) choose(x *api.Instr) int {
	if r.pop() != 0 {
		return r.block(x.Body, x.A)
	}
	return r.block(x.Else, x.A)
}

// counted is the label of a br_table that a value counts.
func (r *run) counted(x *api.Instr) int {
	if n := r.pop(); n < uint64(len(x.Labels)) {
		return x.Labels[n]
	}
	return x.A
}

// pick leaves the first or the second of two values.
func (r *run) pick() {
	which := r.pop()
	second := r.pop()
	first := r.pop()
	if which != 0 {
		r.push(first)
	} else {
		r.push(second)
	}
}

// step does one instruction, and tells where it goes behind that.
func (r *run) step(x *api.Instr) int {
	switch x.Op {
	case opUnreachable:
		panic(trap(api.TrapStop))
	case opNop:
	case opBlock:
		return r.block(x.Body, x.A)
	case opLoop:
		return r.loop(x.Body)
	case opIf:
		return r.choose(x)
	case opBr:
		return x.A
	case opBrIf:
		if r.pop() != 0 {
			return x.A
		}
	case opBrTable:
		return r.counted(x)
	case opReturn:
		return outOfBody
	case opCall:
		r.call(x.A, 0)
	case opCallIndirect:
		r.indirect(x.A)
	case opDrop:
		r.pop()
	case opSelect:
		r.pick()
	case opLocalGet:
		r.push(r.locals[r.base+x.A])
	case opLocalSet:
		r.locals[r.base+x.A] = r.pop()
	case opLocalTee:
		r.locals[r.base+x.A] = r.top()
	case opGlobalGet:
		r.push(r.globals[x.A].value)
	case opGlobalSet:
		r.globals[x.A].value = r.pop()
	case opSize:
		r.push(uint64(r.memory.Pages()))
	case opGrow:
		r.push(nums.Value(r.memory.Grow(r.pop()), api.I32))
	case opConst32:
		r.push(nums.Value(x.N, api.I32))
	case opConst64:
		r.push(nums.Value(x.N, api.I64))
	default:
		r.rest(x)
	}
	return onward
}

// rest does a load, a store, or what only reckons.
func (r *run) rest(x *api.Instr) {
	switch {
	case x.Op <= opLastLoad:
		r.loadWord(x)
	case x.Op <= opLastStore:
		r.storeWord(x)
	default:
		r.reckon(x.Op)
	}
}
