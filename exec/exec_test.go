package exec

import (
	"math"
	"reflect"
	"slices"
	"strconv"
	"strings"
	"testing"

	"athanor/api"
)

// This file is about Call, Memory, Global and SetGlobal (P8.2, P8.3): what a run is called with, how it ends, what stays.

// checkOutcome wants an outcome, nil and empty lists being one.
func checkOutcome(t *testing.T, what string, got, want api.Outcome) {
	t.Helper()
	if !sameOutcome(got, want) {
		t.Errorf("%s: %+v, want %+v", what, got, want)
	}
}

func done(steps int, results ...int) api.Outcome {
	return api.Outcome{End: api.EndDone, Results: results, Steps: steps}
}

func trapped(trap, steps int) api.Outcome {
	return api.Outcome{End: api.EndTrap, Trap: trap, Steps: steps}
}

func ended(end, steps int) api.Outcome {
	return api.Outcome{End: end, Steps: steps}
}

// check wants the outcome of f of a module that is new, by the machine and by the plain one.
func check(t *testing.T, what string, m api.Module, s api.Script, args []int, fuel int, want api.Outcome) pair {
	t.Helper()
	c, err := newPair(t, what, m, s)
	if err != api.OK {
		t.Fatalf("%s: %v", what, err)
	}
	checkOutcome(t, what, c.call(t, what, "f", args, fuel), want)
	c.checkMemory(t, what)
	return c
}

func TestExamples(t *testing.T) {
	check(t, "a division", build(">: i.1 i.0 6d drop"), api.Script{}, nil, 100, trapped(api.TrapDivide, 3))
	check(t, "a division", bare(">i: i.1 i.0 6d"), api.Script{}, nil, 3, trapped(api.TrapDivide, 3))
	for _, fuel := range []int{0, 1, 2, 3, 50, 1000} {
		check(t, "a loop", bare(">: loop{ br.0 }"), api.Script{}, nil, fuel, ended(api.EndFuel, fuel))
	}
	x, _ := New(bare(">: loop{ br.0 }"), api.Script{})
	if o, err := x.Call("f", nil, api.MaxFuel); err != api.OK || !sameOutcome(o, ended(api.EndFuel, api.MaxFuel)) {
		t.Error(o, err)
	}
}

// checkRefused wants an error of Call, with nothing beside it.
func checkRefused(t *testing.T, x *Machine, name string, args []int, fuel int, want api.Errno) {
	t.Helper()
	if o, err := x.Call(name, args, fuel); err != want || !reflect.DeepEqual(o, api.Outcome{}) {
		t.Errorf("Call(%q, %v, %d): %+v, %v, want %v", name, args, fuel, o, err, want)
	}
}

func TestErrorsOfCall(t *testing.T) {
	m := build("il>i: get.0", ">: nop")
	m.Funcs = append(m.Funcs, functionOf(&m, ">: i.1 gset.0"))
	m.Start = []int{7}
	x := checkNew(t, "a module", m, api.Script{}, api.OK)
	for _, name := range []string{"", "F", "ff", "h", "table", "memory", "global", "env", "f\x00", "\xff"} {
		checkRefused(t, x, name, nil, 0, api.ErrExport)
		checkRefused(t, x, name, []int{1, 2}, -1, api.ErrExport)
	}
	for _, args := range [][]int{nil, {1}, {1, 2, 3}, make([]int, 4096)} {
		checkRefused(t, x, "f", args, 9, api.ErrArg)
		checkRefused(t, x, "f", args, -1, api.ErrArg)
	}
	checkRefused(t, x, "g", []int{0}, 9, api.ErrArg)
	checkRefused(t, x, "read", []int{0}, 9, api.ErrArg)
	checkRefused(t, x, "write", nil, 9, api.ErrArg)
	for _, fuel := range []int{-1, math.MinInt, api.MaxFuel + 1, math.MaxInt} {
		checkRefused(t, x, "f", []int{1, 2}, fuel, api.ErrArg)
		checkRefused(t, x, "g", nil, fuel, api.ErrArg)
		checkRefused(t, x, "more", nil, fuel, api.ErrArg)
	}
	// What is refused runs nothing, the Start neither.
	if n, _ := x.Global(0); n != -5 {
		t.Error("the Start was run")
	}
	o, err := x.Call("f", []int{6, 7}, api.MaxFuel)
	if err != api.OK || !sameOutcome(o, done(3, 6)) {
		t.Error(o, err)
	}
}

func TestNilMachine(t *testing.T) {
	var x *Machine
	for _, fuel := range []int{-1, 0, 1, api.MaxFuel + 1} {
		checkRefused(t, x, "f", nil, fuel, api.ErrExport)
		checkRefused(t, x, "", []int{1}, fuel, api.ErrExport)
	}
	if x.Memory() != nil || x.Memory().Pages() != 0 {
		t.Error("a memory")
	}
	for _, n := range []int{-1, 0, 1, math.MinInt, math.MaxInt} {
		if v, ok := x.Global(n); v != 0 || ok || x.SetGlobal(n, 5) {
			t.Error("a global", n)
		}
	}
}

// Arguments and results are signed numbers; of arguments the lower bits count.
func TestArgumentsAndResults(t *testing.T) {
	numbers := []int{0, 1, -1, 5, math.MaxInt32, math.MinInt32, math.MaxInt32 + 1, math.MinInt32 - 1, 1 << 32, 1<<32 + 7, -1 << 32, 1<<63 - 1, -1 << 63}
	for _, n := range numbers {
		check(t, "an I32", bare("i>i: get.0"), api.Script{}, []int{n}, 1, done(1, int(int32(n))))
		check(t, "an I64", bare("l>l: get.0"), api.Script{}, []int{n}, 1, done(1, n))
		check(t, "the last of four", bare("lili>i: get.3"), api.Script{}, []int{1, 2, 3, n}, 1, done(1, int(int32(n))))
		check(t, "an I32 as an I64, without sign", bare("i>l: get.0 ad"), api.Script{}, []int{n}, 2, done(2, int(uint32(n))))
	}
	check(t, "in their order", bare("iii>i: get.0 i.100 6c get.1 i.10 6c 6a get.2 6a"), api.Script{}, []int{1, 2, 3}, 99, done(9, 123))
	check(t, "nothing", bare(">:"), api.Script{}, nil, 0, done(0))
	check(t, "nothing, of nothing", bare(">:"), api.Script{}, []int{}, 0, done(0))
	m := bare(strings.Repeat("i", 4096) + ">i: get.4095 get.0 6b")
	args := make([]int, 4096)
	args[0], args[4095] = 30, 100
	check(t, "as many as may be", m, api.Script{}, args, 9, done(3, 70))
}

// What a function leaves is its result, whatever way it ends.
func TestWaysOutOfAFunction(t *testing.T) {
	for text, want := range map[string]api.Outcome{
		"i.4":                                    done(1, 4),
		"i.4 ret":                                done(2, 4),
		"i.4 br.0":                               done(2, 4),
		"i.1 i.2 i.4 ret":                        done(4, 4),
		"i.1 l.2 i.4 br.0":                       done(4, 4),
		"i.4 i.1 brif.0 drop un":                 done(3, 4),
		"i.4 i.0 brif.0":                         done(3, 4),
		"i.4 i.9 tab.0":                          done(3, 4),
		"l.8 i.4 i.0 tab.0,0":                    done(4, 4),
		"block{ i.4 ret } un":                    done(3, 4),
		"block{ loop{ l.1 i.4 br.2 } } un":       done(5, 4),
		"i.7 block{ i.1 if{ i.4 ret } } drop un": done(6, 4),
	} {
		check(t, text, bare(">i: "+text), api.Script{}, nil, 99, want)
		// Within a call the caller's values stay.
		m := build(">i: i.1000 call.g 6a", ">i: "+text)
		want.Results = []int{1004}
		want.Steps += 3
		check(t, "called: "+text, m, api.Script{}, nil, 99, want)
	}
}

// checkFuels calls f with every fuel up to one more than it takes: with less it is EndFuel, and all fuel is used; else it is as it is.
func checkFuels(t *testing.T, what string, m api.Module, s api.Script, args []int) {
	t.Helper()
	c, _ := newPair(t, what, m, s)
	whole := c.call(t, what, "f", args, 10000)
	if whole.End == api.EndFuel {
		t.Fatalf("%s: %+v", what, whole)
	}
	for fuel := range whole.Steps + 3 {
		c, _ := newPair(t, what, m, s)
		o := c.call(t, what, "f", args, fuel)
		if fuel >= whole.Steps {
			checkOutcome(t, what+", fuel "+strconv.Itoa(fuel), o, whole)
		} else if o.End != api.EndFuel || o.Steps != fuel || len(o.Results) != 0 || o.Trap != 0 {
			t.Errorf("%s, fuel %d: %+v", what, fuel, o)
		}
	}
	x, _ := New(m, s)
	o, _ := x.Call("f", args, api.MaxFuel)
	checkOutcome(t, what+", all fuel", o, whole)
}

func TestFuel(t *testing.T) {
	for _, text := range []string{
		">:", ">: nop", ">: nop nop nop", ">: un", ">i: i.1 i.0 6d", ">: block{ } loop{ } i.0 if{ }", ">: block{ nop br.0 nop } nop",
		"i>i+i: loop{ get.1 i.1 6a tee.1 i.4 48 brif.0 } get.1", ">: i.3 write i.4 show read drop force drop more drop",
		">i: i.70000 28.0", ">: call.g call.g i.5 call.h", ">i: i.1 if:i{ i.4 }else{ i.5 }",
	} {
		m := build(text, ">: nop", "i>: loop{ get.0 i.1 6b tee.0 brif.0 }")
		args := make([]int, len(m.Types[m.Funcs[0].Type].Params))
		checkFuels(t, text, m, api.Script{Inputs: []int{1}}, args)
		for _, start := range []string{">:", ">: nop", ">: i.6 call.h i.1 gset.0 i.8 write", ">: un", ">: i.9 28.0 drop nop i.-1 28.0 drop"} {
			begun := build(text, ">: nop", "i>: loop{ get.0 i.1 6b tee.0 brif.0 }", start)
			begun.Start = []int{ownFirst + 3}
			checkFuels(t, text+" behind "+start, begun, api.Script{Inputs: []int{1}}, args)
		}
	}
}

func TestStart(t *testing.T) {
	m := build(">i: gget.0", ">: gget.0 i.10 6a gset.0 gget.0 write")
	m.Start = []int{ownFirst + 1}
	c := check(t, "a Start", m, api.Script{}, nil, 99, api.Outcome{End: api.EndDone, Results: []int{5}, Writes: []int{5}, Steps: 7})
	checkOutcome(t, "behind it", c.call(t, "behind it", "f", nil, 99), api.Outcome{End: api.EndDone, Results: []int{5}, Writes: []int{5}, Steps: 1})
	// Whoever calls it by its name runs it again; as a Start it is run once.
	c, _ = newPair(t, "itself", m, api.Script{})
	checkOutcome(t, "itself", c.call(t, "itself", "g", nil, 99), api.Outcome{End: api.EndDone, Writes: []int{5, 15}, Steps: 12})
	// A function of the host has it run first, too.
	for _, name := range []string{"read", "more", "force", "write", "show"} {
		c, _ = newPair(t, name, m, api.Script{})
		var args []int
		if name == "write" || name == "show" {
			args = []int{77}
		}
		o := c.call(t, name, name, args, 99)
		if o.Steps != 6 || o.Writes[0] != 5 || o.End != api.EndDone {
			t.Errorf("%s: %+v", name, o)
		}
		c, _ = newPair(t, name, m, api.Script{})
		if o := c.call(t, name, name, args, 5); o.End != api.EndFuel || o.Steps != 5 || len(o.Results) != 0 || o.Asked != 0 || len(o.Shows) != 0 {
			t.Errorf("%s: %+v", name, o)
		}
	}
}

// A Start that does not come to its end is the run's end, and is not run again; what it did stays.
func TestStartsThatEndEarly(t *testing.T) {
	ones := slices.Repeat([]int{1}, api.MaxTrace)
	for text, want := range map[string]api.Outcome{
		"un":                         trapped(api.TrapStop, 3),
		"i.1 i.0 6d drop":            trapped(api.TrapDivide, 5),
		"i.-2147483648 i.-1 6d drop": trapped(api.TrapOver, 5),
		"i.65533 28.0 drop":          trapped(api.TrapBounds, 4),
		"i.8 ind.>":                  trapped(api.TrapTable, 4),
		"i.1 ind.>":                  trapped(api.TrapEmpty, 4),
		"i.0 ind.>":                  trapped(api.TrapType, 4),
		"loop{ br.0 }":               ended(api.EndFuel, 20000),
		"call.g":                     ended(api.EndDepth, 3*512),
		"loop{ i.1 write br.0 }":     {End: api.EndLong, Writes: ones, Steps: 2 + 1 + 3*4096 + 2},
		"loop{ i.1 show br.0 }":      {End: api.EndLong, Shows: ones, Steps: 2 + 1 + 3*4096 + 2},
	} {
		m := build(">i: gget.0", ">: i.6 gset.0 "+text)
		m.Start = []int{ownFirst + 1}
		m.Elems = []api.Elem{{Offset: number32(0), Funcs: []int{ownFirst}}}
		c := check(t, text, m, api.Script{}, nil, 20000, want)
		want.End, want.Trap, want.Steps, want.Results = api.EndDone, 0, 1, []int{6}
		checkOutcome(t, "behind "+text, c.call(t, text, "f", nil, 1), want)
	}
}

// An end leaves nothing for the next run: neither calls nor values nor locals.
func TestCalledAgainBehindEachEnd(t *testing.T) {
	for text, want := range map[string]api.Outcome{
		">: i.1 write":    {End: api.EndDone, Writes: []int{1}, Steps: 2},
		">: i.1 write un": {End: api.EndTrap, Trap: api.TrapStop, Writes: []int{1}, Steps: 3},
		">: i.1 write i.7 i.8 i.9 i.0 6e drop drop drop": {End: api.EndTrap, Trap: api.TrapDivide, Writes: []int{1}, Steps: 7},
		">: i.1 write loop{ br.0 }":                      {End: api.EndFuel, Writes: []int{1}, Steps: 20000},
		">+ii: i.5 tee.0 set.1 i.3 i.4 call.f br.0":      {End: api.EndDepth, Steps: 6 * 512},
		">: loop{ i.2 show br.0 }":                       {End: api.EndLong, Shows: slices.Repeat([]int{2}, 4096), Steps: 1 + 3*4096 + 2},
	} {
		m := build(text, "i>i+l: get.1 a7 get.0 if:i{ get.0 i.1 6b call.g i.1 6a }else{ i.0 } 6a")
		c := check(t, text, m, api.Script{}, nil, 20000, want)
		for range 3 {
			// 512 calls in one another are all that there may be.
			if o := c.call(t, text, "g", []int{511}, 10000); o.End != api.EndDone || !slices.Equal(o.Results, []int{511}) {
				t.Errorf("behind %s: %+v", text, o)
			}
			if o := c.call(t, text, "g", []int{512}, 10000); o.End != api.EndDepth {
				t.Errorf("behind %s: %+v", text, o)
			}
		}
		if o := c.call(t, text, "f", nil, 20000); o.End != want.End || o.Trap != want.Trap {
			t.Errorf("%s again: %+v", text, o)
		}
	}
}

// The module's functions in one another, the first one counted, up to MaxCalls; the host's are none of them.
func TestCallsUpToTheirMost(t *testing.T) {
	for _, text := range []string{
		"get.0 if:i{ get.0 i.1 6b call.f }else{ read }",
		"get.0 if:i{ get.0 i.1 6b i.0 ind.i>i }else{ i.2 ind.>i }",
		"get.0 if:i{ get.0 i.1 6b call.g }else{ read }",
		"get.0 45 if{ read ret } block:i{ loop:i{ i.7 drop get.0 i.1 6b i.1 ind.i>i } }",
	} {
		m := build("i>i: "+text, "i>i: get.0 if:i{ get.0 i.1 6b call.f }else{ read }")
		m.Elems = []api.Elem{{Offset: number32(0), Funcs: []int{ownFirst, ownFirst + 1, 0}}}
		for n, end := range map[int]int{0: api.EndDone, 1: api.EndDone, 510: api.EndDone, 511: api.EndDone, 512: api.EndDepth, 513: api.EndDepth, 100000: api.EndDepth} {
			c, _ := newPair(t, text, m, api.Script{Inputs: []int{42, 43}})
			o := c.call(t, text, "f", []int{n}, 100000)
			if o.End != end || end == api.EndDone && !slices.Equal(o.Results, []int{42}) || end != api.EndDone && (len(o.Results) > 0 || o.Read > 0) {
				t.Errorf("%s: %d: %+v", text, n, o)
			}
		}
	}
	check(t, "for ever", bare(">: call.0"), api.Script{}, nil, 1000, ended(api.EndDepth, 512))
	check(t, "for ever", bare(">: call.0"), api.Script{}, nil, 512, ended(api.EndDepth, 512))
	check(t, "for ever", bare(">: call.0"), api.Script{}, nil, 511, ended(api.EndFuel, 511))
	check(t, "one behind the other", bare(">+i: loop{ call.1 get.0 i.1 6a tee.0 i.1000 48 brif.0 }", ">: nop"), api.Script{}, nil, 10000, done(1+9*1000))
}

// As deep as calls and blocks may be in one another, both.
func TestCallsWithinBlocks(t *testing.T) {
	open, shut := strings.Repeat("block{ loop{ ", 32), strings.Repeat("} } ", 32)
	check(t, "blocks", build(">: "+open+"call.f "+shut), api.Script{}, nil, 100000, ended(api.EndDepth, 512*65))
	check(t, "out of blocks", build("i>i: "+open+"get.0 i.0 get.0 45 brif.64 drop i.1 6b call.f i.1 6a br.64 "+shut+"un"), api.Script{}, []int{511}, 100000, done(512*64+511*12+5, 511))
}

// pile is a module whose f puts that many values on the stacks of calls in one another, and then does what a text says; the values and what the text leaves are dropped. It tells how many steps were done ahead of the text, and how many come behind it.
func pile(values int, text string) (m api.Module, ahead, behind int) {
	calls, rest := values/256, values%256
	if calls > 255 {
		calls, rest = 255, values-255*256
	}
	m = build(">: gget.0 if{ gget.0 i.1 6b gset.0"+strings.Repeat(" i.1", 256)+" call.f br.0 }else{"+strings.Repeat(" l.1", rest)+" "+text+" br.0 }", ">: nop", "ili>l: get.1")
	m.Globals[0].Init.N = calls
	m.Elems = []api.Elem{{Offset: number32(0), Funcs: []int{ownFirst + 1, ownFirst + 2, 1, 2}}}
	return m, calls*263 + 2 + rest, 1 + calls
}

// Values up to MaxStack ahead of a call of a function of the module, those counted that the call takes; there may be more ahead of anything else.
func TestValuesUpToTheirMost(t *testing.T) {
	for _, c := range []struct {
		text         string
		takes, steps int // what the call takes, the steps up to the call, itself counted
		more         int // the steps behind the call
	}{
		{"call.g", 0, 1, 1}, {"i.1 drop call.g", 0, 3, 1}, {"i.0 ind.>", 1, 2, 1}, {"block{ call.g }", 0, 2, 1}, {"block{ l.1 call.g br.0 }", 1, 3, 2},
		{"i.1 l.2 i.3 call.h", 3, 4, 1}, {"i.1 l.2 i.3 i.1 ind.ili>l", 4, 5, 1},
	} {
		for values := 65536 - 6; values < 65536+3; values++ {
			m, ahead, behind := pile(values, c.text)
			want := ended(api.EndDepth, ahead+c.steps)
			if values+c.takes <= api.MaxStack {
				want = done(ahead + c.steps + c.more + behind)
			}
			check(t, c.text+" above "+strconv.Itoa(values), m, api.Script{}, nil, 100000, want)
		}
	}
	for text, want := range map[string]api.Outcome{
		"i.9 ind.>":                       trapped(api.TrapTable, 2),
		"i.7 ind.>":                       trapped(api.TrapEmpty, 2),
		"i.1 ind.>":                       trapped(api.TrapType, 2),
		"i.1 i.0 6d":                      trapped(api.TrapDivide, 3),
		"more write i.2 ind.>i i.4 write": {End: api.EndDone, Writes: []int{0, 4}, Steps: 6},
		"i.4 i.3 ind.i> i.5 show":         {End: api.EndDone, Writes: []int{4}, Shows: []int{5}, Steps: 5},
	} {
		m, ahead, behind := pile(66000, text)
		want.Steps += ahead
		if want.End == api.EndDone {
			want.Steps += behind
		}
		check(t, text, m, api.Script{}, nil, 100000, want)
	}
}

// What a loop dropped as it was begun again is not there any more.
func TestValuesThatALoopDrops(t *testing.T) {
	text := "loop{ " + strings.Repeat("l.1 ", 64) + "gget.0 i.1 6b gset.0 gget.0 brif.0 br.1 } "
	m := build(">i: i.7 block{ "+text+"} call.g", ">: nop")
	m.Globals[0].Init.N = 2000
	check(t, "a loop", m, api.Script{}, nil, 1<<18, done(3+2000*70+1+2, 7))
}

// Behind a call its stacks are as they were ahead of it, but for what it tells.
func TestStacksBehindACall(t *testing.T) {
	m := build("il>l+il: call.g block{ loop{ i.1 i.2 l.3 br.1 } } i.1 call.h drop l.5 l.6 ret", ">+ii: nop", "i>i+l: i.1 i.2 ret")
	x := checkNew(t, "stacks", m, api.Script{}, api.OK)
	r := &run{Machine: x, fuel: 99}
	o := r.toEnd(ownFirst, []int{1, 2})
	if o.End != api.EndDone || !slices.Equal(r.values, []uint64{6}) || len(r.locals) != 0 || r.base != 0 || r.calls != 0 {
		t.Errorf("%+v, %v, %v, %d, %d", o, r.values, r.locals, r.base, r.calls)
	}
}

// Locals are no values on the stacks, however many there are.
func TestLocalsAreNotCounted(t *testing.T) {
	m := build("i>i+" + strings.Repeat("l", 256) + ": get.0 45 if{ get.256 a7 ret } l.7 set.256 get.0 i.1 6b call.f i.1 6a get.256 a7 6a i.7 6b")
	check(t, "many locals", m, api.Script{}, []int{511}, 100000, done(511*16+6, 511))
	// 4096 Params in each of 16 calls in one another are 65536 locals, and a value each.
	params := strings.Repeat("i", 4096)
	m = bare(params + ">i: get.0 if:i{ get.0 i.1 6b" + strings.Repeat(" i.1", 4095) + " call.0 }else{ get.4095 }")
	args := make([]int, 4096)
	args[0] = 100
	check(t, "many Params", m, api.Script{}, args, 1<<20, done(100*(2+3+4095+1)+3, 1))
}

func TestTraceUpToItsMost(t *testing.T) {
	numbers := make([]int, 4096)
	for i := range numbers {
		numbers[i] = 4096 - i
	}
	both := "i>: loop{ get.0 45 brif.1 get.0 write get.0 show get.0 i.1 6b set.0 br.0 }"
	steps := 1 + 4096*12
	check(t, "all", build(both), api.Script{}, []int{4096}, 100000, api.Outcome{End: api.EndDone, Writes: numbers, Shows: numbers, Steps: steps + 3})
	for name, want := range map[string]api.Outcome{
		"write": {End: api.EndLong, Writes: slices.Repeat([]int{3}, 4096), Steps: 1 + 4096*3 + 2},
		"show":  {End: api.EndLong, Shows: slices.Repeat([]int{3}, 4096), Steps: 1 + 4096*3 + 2},
	} {
		m := build(">: loop{ i.3 "+name+" br.0 }", "i>: get.0 "+name, "i>: get.0 write get.0 show", "i>: get.0 show get.0 write")
		c := check(t, name, m, api.Script{}, nil, 100000, want)
		want.Steps = 2
		checkOutcome(t, name+" once more", c.call(t, name, "g", []int{8}, 9), want)
		want.Steps = 0
		checkOutcome(t, name+" by the host", c.call(t, name, name, []int{8}, 9), want)
		// The other kind has room still.
		for _, letter := range []string{"h", "i"} {
			c.call(t, name, letter, []int{7}, 9)
		}
		if len(c.x.writes)+len(c.x.shows) != 4097 {
			t.Error(name, len(c.x.writes), len(c.x.shows))
		}
	}
}

// read, more and force, up to their last and behind it, by a function and by themselves.
func TestReadMoreForce(t *testing.T) {
	inputs := []int{5, -1, 1<<32 + 9, math.MaxInt64, math.MinInt64, 1 << 31, -1<<31 - 1, 0}
	force := []bool{true, false, false, true, true}
	m := build(">l: read ad l.16 7e more ad 7c l.2 7e force ad 7c")
	c, _ := newPair(t, "read", m, api.Script{Inputs: inputs, Force: force})
	for i := range 12 {
		want := api.Outcome{End: api.EndDone, Steps: 12, Asked: i + 1, Read: min(i+1, 8)}
		v := 0
		if i < len(inputs) {
			v = 32 * int(uint32(inputs[i]))
		}
		if i+1 < len(inputs) {
			v += 2
		}
		if i < len(force) && force[i] {
			v++
		}
		want.Results = []int{v}
		checkOutcome(t, "read", c.call(t, "read", "f", nil, 12), want)
	}
	c, _ = newPair(t, "themselves", m, api.Script{Inputs: inputs, Force: force})
	for i := range 12 {
		for _, name := range []string{"more", "read", "force", "more", "more"} {
			o := c.call(t, name, name, nil, i%2)
			if o.End != api.EndDone || o.Steps != 0 || len(o.Results) != 1 {
				t.Errorf("%s: %+v", name, o)
			}
			if name == "read" && i < 8 && o.Results[0] != int(int32(inputs[i])) {
				t.Errorf("%d: %+v", i, o)
			}
		}
	}
	c, _ = newPair(t, "no script", m, api.Script{})
	checkOutcome(t, "no script", c.call(t, "no script", "f", nil, 12), api.Outcome{End: api.EndDone, Results: []int{0}, Steps: 12, Asked: 1})
}

// Scripts as long as they may be are told to their last.
func TestLongScripts(t *testing.T) {
	s := api.Script{Inputs: make([]int, 256), Force: make([]bool, 65536)}
	s.Inputs[255], s.Force[65535] = 77, true
	m := build(">i+i: loop{ more if{ read set.0 br.1 } } get.0", ">i+i: loop{ force 45 if{ get.0 i.1 6a set.0 br.1 } } get.0")
	c := check(t, "inputs", m, s, nil, 10000, api.Outcome{End: api.EndDone, Results: []int{77}, Steps: 1 + 256*5 + 2 + 1, Read: 256})
	o := c.call(t, "answers", "g", nil, 1<<20)
	if !slices.Equal(o.Results, []int{65535}) || o.Asked != 65536 {
		t.Error(o.Results, o.Asked)
	}
	if o := c.call(t, "behind", "g", nil, 1000); o.End != api.EndFuel || o.Asked < 65537+100 {
		t.Error(o.End, o.Asked)
	}
}

// An export that is an import is the host's function itself; what it writes is the signed number.
func TestExportsOfImports(t *testing.T) {
	c, _ := newPair(t, "imports", build(), api.Script{Inputs: []int{-7}, Force: []bool{true}})
	for i, n := range []int{0, -1, math.MaxInt32, math.MaxInt32 + 1, 1<<32 + 5, math.MinInt64} {
		for _, name := range []string{"write", "show"} {
			o := c.call(t, name, name, []int{n}, 0)
			list := o.Writes
			if name == "show" {
				list = o.Shows
			}
			if o.End != api.EndDone || o.Steps != 0 || len(list) != i+1 || list[i] != int(int32(n)) {
				t.Errorf("%s %d: %+v", name, n, o)
			}
		}
	}
	c, _ = newPair(t, "imports", build(), api.Script{Inputs: []int{-7}, Force: []bool{true}})
	checkOutcome(t, "force", c.call(t, "force", "force", nil, 0), api.Outcome{End: api.EndDone, Results: []int{1}, Asked: 1})
	checkOutcome(t, "more", c.call(t, "more", "more", nil, 0), api.Outcome{End: api.EndDone, Results: []int{1}, Asked: 1})
	checkOutcome(t, "read", c.call(t, "read", "read", nil, 0), api.Outcome{End: api.EndDone, Results: []int{-7}, Asked: 1, Read: 1})
	checkOutcome(t, "more", c.call(t, "more", "more", nil, 0), api.Outcome{End: api.EndDone, Results: []int{0}, Asked: 1, Read: 1})
	checkOutcome(t, "read", c.call(t, "read", "read", nil, 0), api.Outcome{End: api.EndDone, Results: []int{0}, Asked: 1, Read: 1})
	checkOutcome(t, "force", c.call(t, "force", "force", nil, 0), api.Outcome{End: api.EndDone, Results: []int{0}, Asked: 2, Read: 1})
}

// What outcomes tell is the receiver's: whatever becomes of it, the next one is as it would be.
func TestOutcomesShareNothing(t *testing.T) {
	c, _ := newPair(t, "lists", build(">i: i.1 write i.2 show i.3"), api.Script{})
	for range 20 {
		o := c.call(t, "lists", "f", nil, 9)
		for _, list := range [][]int{o.Results, o.Writes, o.Shows} {
			list = list[:cap(list)]
			for i := range list {
				list[i] = 99
			}
		}
	}
	o := c.call(t, "lists", "f", nil, 9)
	if !slices.Equal(o.Writes, slices.Repeat([]int{1}, 21)) || !slices.Equal(o.Shows, slices.Repeat([]int{2}, 21)) {
		t.Error(o)
	}
}

func TestGlobals(t *testing.T) {
	numbers := []int{0, 1, -1, math.MaxInt32, math.MinInt32, math.MaxInt32 + 1, math.MinInt32 - 1, 1<<32 + 3, math.MaxInt64, math.MinInt64}
	m := build(">i: gget.0", ">l: gget.1", ">i: gget.2", ">l: gget.3", "il>: get.0 gset.0 get.1 gset.1")
	x := checkNew(t, "globals", m, api.Script{}, api.OK)
	for n, want := range []int{-5, 7, 11, -1 << 40} {
		if v, ok := x.Global(n); v != want || !ok {
			t.Errorf("%d: %d, %v, want %d", n, v, ok, want)
		}
	}
	for _, v := range numbers {
		for n, name := range []string{"f", "g", "h", "i"} {
			want := v
			if n%2 == 0 {
				want = int(int32(v))
			}
			if !x.SetGlobal(n, v) {
				t.Errorf("SetGlobal(%d, %d): false", n, v)
			}
			if got, ok := x.Global(n); got != want || !ok {
				t.Errorf("Global(%d): %d, %v, want %d", n, got, ok, want)
			}
			o, err := x.Call(name, nil, 1)
			if err != api.OK || !sameOutcome(o, done(1, want)) {
				t.Errorf("global %d: %+v, %v, want %d", n, o, err, want)
			}
		}
		if _, err := x.Call("j", []int{v, v}, 4); err != api.OK {
			t.Error(err)
		}
		a, _ := x.Global(0)
		b, _ := x.Global(1)
		if a != int(int32(v)) || b != v {
			t.Errorf("set to %d: %d, %d", v, a, b)
		}
	}
	for _, n := range []int{-1, 4, 5, math.MinInt, math.MaxInt, 1 << 32, -1 << 32} {
		if v, ok := x.Global(n); v != 0 || ok || x.SetGlobal(n, 1) {
			t.Errorf("a global %d: %d, %v", n, v, ok)
		}
	}
}

// Memory is the machine's itself: what is done to it outside the runs see, and the other way round.
func TestMemory(t *testing.T) {
	x := checkNew(t, "memory", build("i>i: get.0 28.0", "ii>: get.0 get.1 36.0", ">i: i.1 grow"), api.Script{}, api.OK)
	m := x.Memory()
	m.Store(100, 4, 0xfffffffe)
	if o, _ := x.Call("f", []int{100}, 9); !sameOutcome(o, done(2, -2)) {
		t.Error(o)
	}
	x.Call("g", []int{65532, 0x01020304}, 9)
	if v, ok := m.Load(65532, 4); v != 0x01020304 || !ok {
		t.Error(v, ok)
	}
	if o, _ := x.Call("h", nil, 9); !sameOutcome(o, done(2, 1)) || m.Pages() != 2 {
		t.Error(o, m.Pages())
	}
	if m.Grow(1) != 2 {
		t.Error("it did not grow")
	}
	if o, _ := x.Call("h", nil, 9); !sameOutcome(o, done(2, -1)) {
		t.Error(o)
	}
	if o, _ := x.Call("f", []int{3*65536 - 4}, 9); !sameOutcome(o, done(2, 0)) {
		t.Error(o)
	}
	if x.Memory() != m {
		t.Error("another memory")
	}
	if checkNew(t, "no memory", bare(">: nop"), api.Script{}, api.OK).Memory() != nil {
		t.Error("a memory")
	}
}

// Two machines of one module share nothing.
func TestTwoMachines(t *testing.T) {
	m := build("i>i: i.0 get.0 36.0 get.0 gset.0 get.0 write read", ">i: i.0 28.0 gget.0 6a")
	s := api.Script{Inputs: []int{1, 2, 3}}
	a, b := checkNew(t, "one", m, s, api.OK), checkNew(t, "another", m, s, api.OK)
	first, _ := a.Call("f", []int{9}, 99)
	a.Call("f", []int{10}, 99)
	second, _ := b.Call("f", []int{9}, 99)
	checkOutcome(t, "another", second, first)
	if o, _ := b.Call("g", nil, 99); !slices.Equal(o.Results, []int{18}) {
		t.Error(o)
	}
}
