package host

import (
	"math"
	"slices"
	"strconv"
	"strings"
	"testing"

	"athanor/api"
	"athanor/decode"
	"athanor/encode"
	"athanor/leb"
)

// This file is about what Load and Run answer (P9.1, P9.2).

const head = "\x00asm\x01\x00\x00\x00"

// section is a section of that byte.
func section(id byte, s string) string {
	return string(id) + leb.PutU(uint64(len(s))) + s
}

// withBody is the bytes of a module with one function, exported as f, whose code, behind its Locals, is that.
func withBody(s string) string {
	s = "\x00" + s
	return head + section(1, "\x01\x60\x00\x00") + section(3, "\x01\x00") + section(7, "\x01\x01f\x00\x00") + section(10, "\x01"+leb.PutU(uint64(len(s)))+s)
}

// nested is the bytes of a body of that many blocks in one another.
func nested(blocks int) string {
	return strings.Repeat("\x02\x40", blocks) + strings.Repeat("\x0b", blocks+1)
}

// padded is bytes with a custom section behind them, so that there are as many as size.
func padded(s string, size int) string {
	n := size - len(s) - 4
	return s + "\x00" + leb.PutU(uint64(n)) + "\x01x" + strings.Repeat("-", n-2)
}

func TestExample(t *testing.T) {
	for _, a := range []ask{{}, {name: "f"}, {"main", []int{64}, api.Script{Inputs: []int{1}}, 9}, {"", nil, api.Script{Inputs: make([]int, 257)}, -1}} {
		checkReply(t, a.String(), a.ofBytes(""), refused(api.ErrByte))
	}
	if b, err := Load(""); b != nil || err != api.ErrByte {
		t.Error(b != nil, err)
	}
}

// checkRefused wants Load to tell an error, and Run to tell it, whatever it is asked.
func checkRefused(t *testing.T, what, s string, want api.Errno) {
	t.Helper()
	if b, err := Load(s); b != nil || err != want {
		t.Errorf("%s: Load: %v, %v, want %v", what, b != nil, err, want)
	}
	for _, a := range []ask{{name: "f", fuel: 9}, {name: "none"}, {"f", []int{1, 2}, api.Script{}, -1}, {"f", nil, api.Script{Force: make([]bool, 65537)}, api.MaxFuel + 1}} {
		checkReply(t, what+": "+a.String(), a.ofBytes(s), refused(want))
	}
}

// Each of decode's errors, in some of its ways.
func TestBytesThatAreRefused(t *testing.T) {
	whole := written(work())
	for _, c := range []struct {
		what, s string
		want    api.Errno
	}{
		{"more than MaxModule bytes", padded(whole, api.MaxModule+1), api.ErrLong},
		{"more than MaxModule bytes that are no module", strings.Repeat("x", api.MaxModule+1), api.ErrLong},
		{"no module", "module", api.ErrByte},
		{"a part of the head", head[:7], api.ErrByte},
		{"another version", "\x00asm\x02\x00\x00\x00", api.ErrByte},
		{"a section that is none", head + section(12, ""), api.ErrByte},
		{"a section that says more than is there", head + "\x01\x05\x01\x60\x00\x00", api.ErrByte},
		{"a section that is too long", head + "\x01\x05\x01\x60\x00\x00\x00", api.ErrByte},
		{"a section twice", head + section(1, "\x00") + section(1, "\x00"), api.ErrByte},
		{"a byte behind the last section", whole + "\x0c", api.ErrByte},
		{"functions without codes", head + section(1, "\x01\x60\x00\x00") + section(3, "\x01\x00"), api.ErrByte},
		{"an import of a memory", head + section(2, "\x01\x03env\x01m\x02\x00\x01"), api.ErrByte},
		{"no instruction", withBody("\x06\x0b"), api.ErrByte},
		{"a type of floating numbers", head + section(1, "\x01\x60\x01\x7d\x00"), api.ErrFloat},
		{"an instruction of floating numbers", withBody("\x92\x0b"), api.ErrFloat},
		{"too many entries", head + section(1, leb.PutU(4097)), api.ErrMany},
		{"too many instructions", withBody(strings.Repeat("\x01", api.MaxInstrs+1) + "\x0b"), api.ErrMany},
		{"blocks too deep", withBody(nested(66)), api.ErrDeep},
	} {
		if _, err := decode.Decode(c.s); err != c.want {
			t.Fatalf("%s: decode tells %v, want %v", c.what, err, c.want)
		}
		checkRefused(t, c.what, c.s, c.want)
	}
}

// What is just within decode's limits is run.
func TestBytesUpToTheLimits(t *testing.T) {
	a := ask{name: "f", fuel: api.MaxFuel}
	whole := written(small(nothing, "nop"))
	for s, steps := range map[string]int{
		whole:                          1,
		padded(whole, api.MaxModule-1): 1,
		padded(whole, api.MaxModule):   1,
		withBody(nested(65)):           65,
		withBody(strings.Repeat("\x01", api.MaxInstrs) + "\x0b"): api.MaxInstrs,
	} {
		want := reply{out: api.Outcome{End: api.EndDone, Steps: steps}}
		checkReply(t, strconv.Itoa(len(s))+" bytes", a.ofBytes(s), want)
		checkReply(t, strconv.Itoa(len(s))+" bytes, loaded", a.of(loaded(t, s)), want)
	}
	checkReply(t, "an empty module", ask{name: "f"}.ofBytes(head), refused(api.ErrExport))
}

// invalid is the bytes of modules that are read and are not valid, with valid's error.
func invalid() map[string]api.Errno {
	m := work()
	out := map[string]api.Errno{
		written(small(tells, "l.1")):          api.ErrType,
		written(small(tells, "")):             api.ErrType,
		written(small(nothing, "i.1")):        api.ErrType,
		written(small(nothing, "drop")):       api.ErrType,
		written(small(nothing, "br.1")):       api.ErrIndex,
		written(small(nothing, "call.1")):     api.ErrIndex,
		written(small(nothing, "get.0 drop")): api.ErrIndex,
		written(small(nothing, "size drop")):  api.ErrIndex,
	}
	for _, c := range []struct {
		do   func(m *api.Module)
		want api.Errno
	}{
		{func(m *api.Module) { m.Types = append(m.Types, api.FuncType{Results: []int{api.I32, api.I32}}) }, api.ErrType},
		{func(m *api.Module) { m.Mems = []api.Limits{{Min: 2, Max: 1, Has: true}} }, api.ErrType},
		{func(m *api.Module) { m.Mems = []api.Limits{{Min: 65537}} }, api.ErrType},
		{func(m *api.Module) { m.Start = []int{2} }, api.ErrType},
		{func(m *api.Module) { m.Datas = []api.Data{{Offset: api.Instr{Op: 0x42}}} }, api.ErrType},
		{func(m *api.Module) { m.Funcs = append(m.Funcs, api.Func{Type: 99}) }, api.ErrIndex},
		{func(m *api.Module) { m.Start = []int{99} }, api.ErrIndex},
		{func(m *api.Module) { m.Tables = nil; m.Exports = nil }, api.ErrIndex},
		{func(m *api.Module) {
			m.Globals = append(m.Globals, api.Global{Type: api.I32, Init: api.Instr{Op: 0x23}})
		}, api.ErrConst},
		{func(m *api.Module) { m.Globals = []api.Global{{Type: api.I32, Init: number(1)}, m.Globals[1]} }, api.ErrConst},
		{func(m *api.Module) { m.Exports = append(slices.Clip(m.Exports), api.Export{Name: "step"}) }, api.ErrTwice},
		{func(m *api.Module) { m.Mems = []api.Limits{{}, {}} }, api.ErrMany},
		{func(m *api.Module) { m.Tables = []api.Limits{{Min: 8}, {}} }, api.ErrMany},
	} {
		out[changed(m, c.do)] = c.want
	}
	return out
}

func TestModulesThatAreNotValid(t *testing.T) {
	seen := map[api.Errno]int{}
	for s, want := range invalid() {
		if _, err := decode.Decode(s); err != api.OK {
			t.Fatalf("decode tells %v of a module that is to be read", err)
		}
		checkRefused(t, "not valid", s, want)
		seen[want]++
	}
	for _, err := range []api.Errno{api.ErrType, api.ErrIndex, api.ErrConst, api.ErrTwice, api.ErrMany} {
		if seen[err] == 0 {
			t.Errorf("no module has %v", err)
		}
	}
}

// What decode refuses is not looked at for whether it is valid.
func TestDecodeGoesAheadOfValidate(t *testing.T) {
	for s := range invalid() {
		checkRefused(t, "a byte more", s+"\x0c", api.ErrByte)
		checkRefused(t, "a byte less", s[:len(s)-1], api.ErrByte)
		checkRefused(t, "too long", padded(s, api.MaxModule+1), api.ErrLong)
	}
	checkRefused(t, "a floating number in a body that is not of its type", withBody("\x41\x00\x92\x0b"), api.ErrFloat)
	checkRefused(t, "too deep in a body that is not of its type", withBody("\x1a"+nested(66)), api.ErrDeep)
}

// newRefuses is bytes that are loaded, and a script, of which exec.New makes no machine.
type newRefuses struct {
	what, s string
	script  api.Script
	want    api.Errno
}

// notNew is each of exec.New's errors behind valid's, in some of its ways.
func notNew() []newRefuses {
	m := work()
	do := func(do func(m *api.Module)) string { return changed(m, do) }
	imported := func(module, name string, typ int) string {
		return do(func(m *api.Module) {
			m.Imports = slices.Clone(m.Imports)
			m.Imports[1] = api.Import{Module: module, Name: name, Type: typ}
		})
	}
	long, wrong := api.Script{Inputs: make([]int, 257)}, api.Script{Force: make([]bool, 65537)}
	link := imported("env", "mores", tells)
	return []newRefuses{
		{"too many inputs", written(m), long, api.ErrArg},
		{"too many answers", written(m), wrong, api.ErrArg},
		{"too many of both", written(m), api.Script{Inputs: long.Inputs, Force: wrong.Force}, api.ErrArg},
		{"too many inputs, and an import that is none", link, long, api.ErrArg},
		{"an import of another Name", link, api.Script{}, api.ErrLink},
		{"an import of another Module", imported("host", "more", tells), api.Script{}, api.ErrLink},
		{"an import of another type", written(api.Module{Types: types(), Imports: []api.Import{{Module: "env", Name: "more", Type: turns}}}), api.Script{}, api.ErrLink},
		{"a table that is too large", do(func(m *api.Module) { m.Tables = []api.Limits{{Min: 4097}} }), api.Script{}, api.ErrRoom},
		{"a memory that is too large", do(func(m *api.Module) { m.Mems = []api.Limits{{Min: 33}} }), api.Script{}, api.ErrRoom},
		{"an Elem beyond the table", do(func(m *api.Module) { m.Elems = []api.Elem{{Offset: number(9)}} }), api.Script{}, api.ErrBounds},
		{"an Elem at a place below 0", do(func(m *api.Module) { m.Elems = []api.Elem{{Offset: number(-1)}} }), api.Script{}, api.ErrBounds},
		{"a Data beyond the memory", do(func(m *api.Module) { m.Datas = []api.Data{{Offset: number(65535), Bytes: "ab"}} }), api.Script{}, api.ErrBounds},
	}
}

// Load takes what only New refuses; New's error goes ahead of all that Call tells, and no run is counted.
func TestWhatNewRefuses(t *testing.T) {
	for _, c := range notNew() {
		b := loaded(t, c.s)
		for _, a := range []ask{{"peek", nil, c.script, 99}, {"none", nil, c.script, 99}, {"peek", []int{1}, c.script, 99}, {"peek", nil, c.script, -1}, {"table", nil, c.script, api.MaxFuel + 1}} {
			checkReply(t, c.what+": "+a.String(), a.of(b), refused(c.want))
			checkReply(t, c.what+": "+a.String(), a.ofBytes(c.s), refused(c.want))
			checkRuns(t, c.what, b, 0)
		}
	}
}

// A script that was refused changes nothing for the next one.
func TestScriptsUpToTheirLimits(t *testing.T) {
	s := written(work())
	b := loaded(t, s)
	refusedOnes := 0
	for i, script := range []api.Script{{Inputs: make([]int, 256)}, {Inputs: make([]int, 257)}, {Force: make([]bool, 65536)}, {Force: make([]bool, 65537)}, {}} {
		a := ask{"listen", nil, script, 99}
		want, came := a.plainly(s)
		if !came {
			refusedOnes++
		}
		checkReply(t, a.String(), a.of(b), want)
		checkRuns(t, a.String(), b, i+1-refusedOnes)
	}
	if refusedOnes != 2 {
		t.Error(refusedOnes)
	}
}

// Call's errors: each is told, with nothing beside it, and counted as a run.
func TestWhatCallRefuses(t *testing.T) {
	s := written(work())
	b := loaded(t, s)
	for i, c := range []struct {
		ask
		want api.Errno
	}{
		{ask{"none", nil, api.Script{}, 99}, api.ErrExport},
		{ask{"", nil, api.Script{}, 99}, api.ErrExport},
		{ask{"Peek", nil, api.Script{}, 99}, api.ErrExport},
		{ask{"\xff", nil, api.Script{}, 99}, api.ErrExport},
		{ask{"table", nil, api.Script{}, 99}, api.ErrExport},
		{ask{"memory", nil, api.Script{}, 99}, api.ErrExport},
		{ask{"global", nil, api.Script{}, 99}, api.ErrExport},
		{ask{"more", nil, api.Script{}, 99}, api.ErrExport}, // an import, not exported
		{ask{"none", []int{1}, api.Script{}, -1}, api.ErrExport},
		{ask{"peek", []int{1}, api.Script{}, 99}, api.ErrArg},
		{ask{"step", nil, api.Script{}, 99}, api.ErrArg},
		{ask{"step", []int{1, 2}, api.Script{}, 99}, api.ErrArg},
		{ask{"write", nil, api.Script{}, 99}, api.ErrArg},
		{ask{"peek", nil, api.Script{}, -1}, api.ErrArg},
		{ask{"peek", nil, api.Script{}, math.MinInt}, api.ErrArg},
		{ask{"peek", nil, api.Script{}, api.MaxFuel + 1}, api.ErrArg},
		{ask{"peek", nil, api.Script{}, math.MaxInt}, api.ErrArg},
	} {
		checkReply(t, c.String(), c.of(b), refused(c.want))
		checkRuns(t, c.String(), b, i+1)
		checkReply(t, c.String(), c.ofBytes(s), refused(c.want))
	}
}

// ended is an outcome's reply; work's Start has written 6 with 12 steps ahead of the others.
func ended(end, trap, steps int, writes ...int) reply {
	return reply{out: api.Outcome{End: end, Trap: trap, Steps: 12 + steps, Writes: append([]int{6}, writes...)}}
}

// done is the reply of a run that came to its end.
func done(steps, result int, writes ...int) reply {
	r := ended(api.EndDone, 0, steps, writes...)
	r.out.Results = []int{result}
	return r
}

// heard is a reply with what was shown, asked and read.
func heard(r reply, shows []int, asked, read int) reply {
	r.out.Shows, r.out.Asked, r.out.Read = shows, asked, read
	return r
}

func asks(name string, fuel int, args ...int) ask { return ask{name: name, args: args, fuel: fuel} }

// Each end, each trap, and what is told beside it, reckoned by hand.
func TestEachEnd(t *testing.T) {
	s := written(work())
	b := loaded(t, s)
	script := api.Script{Inputs: []int{3, 4, 5}, Force: []bool{true, false, true}}
	for i, c := range []struct {
		ask
		want reply
	}{
		{asks("peek", 99), done(17, 123)},
		{asks("peek", 29), done(17, 123)},
		{asks("peek", api.MaxFuel), done(17, 123)},
		{asks("wide", 99, math.MaxInt64), done(3, math.MinInt64)},
		{asks("divide", 99, 1<<32+1), done(9, 1)},
		{asks("write", 99, 1<<32-3), ended(api.EndDone, 0, 0, -3)},
		{asks("write", 12, 8), ended(api.EndDone, 0, 0, 8)},
		{ask{"read", nil, script, 99}, heard(done(0, 3), nil, 0, 1)},
		{ask{"listen", nil, script, 99}, heard(done(13, 7, 50, 1, 0), nil, 2, 2)},
		{ask{"step", []int{3}, script, 99}, heard(done(45, 2026, 26, 26), []int{3}, 1, 1)},
		{asks("stop", 99), ended(api.EndTrap, api.TrapStop, 8, 8)},
		{asks("divide", 99, 0), ended(api.EndTrap, api.TrapDivide, 9)},
		{asks("over", 99, -1), ended(api.EndTrap, api.TrapOver, 3)},
		{asks("bounds", 99, 65533), ended(api.EndTrap, api.TrapBounds, 5)},
		{asks("indirect", 99, 8), ended(api.EndTrap, api.TrapTable, 6)},
		{asks("indirect", 99, 5), ended(api.EndTrap, api.TrapEmpty, 6)},
		{asks("indirect", 99, 4), ended(api.EndTrap, api.TrapType, 6)},
		{asks("indirect", 99, 2), ended(api.EndDone, 0, 6, 1)},
		{asks("deep", 9999), ended(api.EndDepth, 0, 512*5)},
		{asks("peek", 28), ended(api.EndFuel, 0, 16)},
		{asks("spin", 1000), ended(api.EndFuel, 0, 988)},
		{asks("peek", 11), reply{out: api.Outcome{End: api.EndFuel, Steps: 11}}},
		{asks("peek", 0), reply{out: api.Outcome{End: api.EndFuel}}},
		{asks("writes", 99999), ended(api.EndLong, 0, 1+4095*3+2, slices.Repeat([]int{3}, 4095)...)},
		{asks("shows", 99999), heard(ended(api.EndLong, 0, 1+4096*3+2), slices.Repeat([]int{4}, 4096), 0, 0)},
	} {
		checkReply(t, c.String(), c.of(b), c.want)
		checkRuns(t, c.String(), b, i+1)
		checkReply(t, c.String()+" of the bytes", c.ofBytes(s), c.want)
		if plain, came := c.plainly(s); !came || !sameReply(plain, c.want) {
			t.Errorf("%s, plainly: %+v, want %+v", c, plain, c.want)
		}
	}
}

// What Runs tells ahead of all runs, and behind each kind of them.
func TestRuns(t *testing.T) {
	s := written(work())
	b, other := loaded(t, s), loaded(t, s)
	checkRuns(t, "ahead of all", b, 0)
	long := api.Script{Inputs: make([]int, 257)}
	for i, c := range []struct {
		ask
		want int
	}{
		{ask{"peek", nil, long, 99}, 0},
		{ask{"peek", nil, api.Script{}, 99}, 1},
		{ask{"none", nil, api.Script{}, 99}, 2},
		{ask{"none", nil, long, 99}, 2},
		{ask{"step", nil, api.Script{}, 99}, 3},
		{ask{"stop", nil, api.Script{}, 99}, 4},
		{ask{"spin", nil, api.Script{}, 99}, 5},
		{ask{"peek", nil, api.Script{}, 0}, 6},
		{ask{"peek", nil, api.Script{}, -1}, 7},
	} {
		c.of(b)
		checkRuns(t, c.String(), b, c.want)
		checkRuns(t, "asked again", b, c.want)
		// Neither a run of the bytes nor one of another Binary is a run of this one.
		c.ofBytes(s)
		checkRuns(t, "a run of the bytes", b, c.want)
		checkRuns(t, "another Binary", other, i)
		asks("peek", 99).of(other)
		checkRuns(t, "a run of another Binary", b, c.want)
	}
	for range 1000 {
		asks("none", 0).of(other)
	}
	checkRuns(t, "many", other, 1009)
}

// nil, and what Load did not make, have nothing to run, whatever is asked.
func TestNoBinary(t *testing.T) {
	for _, b := range []*Binary{nil, {}, new(Binary)} {
		checkRuns(t, "no Binary", b, 0)
		for _, a := range []ask{{}, asks("f", 9), asks("peek", 99, 1, 2), asks("f", -1), {"f", nil, api.Script{Inputs: make([]int, 257)}, 9}, {"f", nil, api.Script{Force: make([]bool, 65537)}, api.MaxFuel + 1}} {
			for range 2 {
				checkReply(t, a.String(), a.of(b), refused(api.ErrExport))
				checkRuns(t, a.String(), b, 0)
			}
		}
	}
	var b Binary
	sideBySide(8, func(int) {
		checkReply(t, "at one time", asks("f", 9).of(&b), refused(api.ErrExport))
		checkRuns(t, "at one time", &b, 0)
	})
}

// checkBytes holds Load and Run of bytes, whatever they are, against the plain way. Bytes that are not refused are run to one of five ends, and they do the same when they are written again.
func checkBytes(t testing.TB, s string, list ...ask) {
	t.Helper()
	m, want := plainLoad(s)
	b, err := Load(s)
	if err != want || (b != nil) != (want == api.OK) {
		t.Fatalf("%q: Load: %v, %v, want %v", s, b != nil, err, want)
	}
	again, wrong := encode.Encode(m)
	runs := 0
	for _, a := range list {
		plain, came := a.plainly(s)
		checkReply(t, a.String(), a.ofBytes(s), plain)
		if b == nil {
			continue
		}
		if came {
			runs++
		}
		checkReply(t, a.String()+", loaded", a.of(b), plain)
		checkRuns(t, a.String(), b, runs)
		if end := plain.out.End; plain.err == api.OK && (end < api.EndDone || end > api.EndLong) {
			t.Errorf("%q: %v ends with %d", s, a, end)
		}
		if wrong == api.OK {
			checkReply(t, a.String()+", written again", a.ofBytes(again), plain)
		}
	}
}

func TestBytesCutOff(t *testing.T) {
	s := written(work())
	for n := range len(s) + 1 {
		checkBytes(t, s[:n], asks("peek", 99), asks("none", 99))
	}
}

func TestBytesChanged(t *testing.T) {
	s := written(work())
	list := []ask{asks("peek", 99), {"step", []int{5}, api.Script{Inputs: []int{1, 2}, Force: []bool{true}}, 99}}
	for at := range len(s) {
		for _, b := range []byte{0, 0x0b, 0x7f, 0x80, s[at] ^ 1, s[at] + 3} {
			checkBytes(t, s[:at]+string([]byte{b})+s[at+1:], list...)
		}
	}
}

func FuzzBytes(f *testing.F) {
	f.Add("", "f", 0, 0, 0)
	f.Add(head, "f", 0, 0, 1)
	f.Add(written(work()), "step", 5, 1, 999)
	f.Add(written(work()), "listen", 0, 0, 99)
	f.Add(written(small(turns, "get.0 i.2 add")), "f", 7, 1, 3)
	f.Add(withBody(nested(65)), "f", 0, 0, 64)
	f.Fuzz(func(t *testing.T, s, name string, arg, count, fuel int) {
		args := slices.Repeat([]int{arg}, count&3)
		script := api.Script{Inputs: []int{arg, count, fuel}, Force: []bool{arg&1 == 1, fuel&1 == 1, true}}
		checkBytes(t, s, ask{name, args, script, fuel}, ask{name, args, api.Script{}, fuel & 0xffff}, ask{name, nil, script, 1000})
	})
}
