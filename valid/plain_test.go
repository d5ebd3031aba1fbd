package valid

import (
	"athanor/api"
	"athanor/nums"
	"athanor/wast"
)

// This file holds the chapter's words once more. Types are letters (i, l, and ? for unknown), lists of them texts; every frame has a stack of its own, so that nothing lies below its height; what is wrong first is noted, and nothing is noted from there on.

// accesses is the bytes that a load or a store reads or writes, and what it takes and tells.
var accesses = map[int]struct {
	bytes        int
	takes, tells string
}{
	0x28: {4, "i", "i"}, 0x29: {8, "i", "l"},
	0x2c: {1, "i", "i"}, 0x2d: {1, "i", "i"}, 0x2e: {2, "i", "i"}, 0x2f: {2, "i", "i"},
	0x30: {1, "i", "l"}, 0x31: {1, "i", "l"}, 0x32: {2, "i", "l"}, 0x33: {2, "i", "l"}, 0x34: {4, "i", "l"}, 0x35: {4, "i", "l"},
	0x36: {4, "ii", ""}, 0x37: {8, "il", ""},
	0x3a: {1, "ii", ""}, 0x3b: {2, "ii", ""}, 0x3c: {1, "il", ""}, 0x3d: {2, "il", ""}, 0x3e: {4, "il", ""},
}

type plainFrame struct {
	label, stack string
	dead         bool
}

type plain struct {
	m      api.Module
	locals string
	frames []plainFrame
	err    api.Errno
}

// plainWhere is Where, as the chapter's words stand.
func plainWhere(m api.Module) (int, api.Errno) {
	if err := wast.Check(m); err != api.OK {
		return -1, err
	}
	p := &plain{m: m}
	p.types()
	p.limits()
	p.globals()
	p.exports()
	p.start()
	p.filled()
	if p.err != api.OK {
		return -1, p.err
	}
	for i, f := range m.Funcs {
		typ := m.Types[f.Type]
		p.locals, p.frames = lettersOf(typ.Params)+lettersOf(f.Locals), nil
		p.list(f.Body, lettersOf(typ.Results), lettersOf(typ.Results))
		if p.err != api.OK {
			return len(m.Imports) + i, p.err
		}
	}
	return -1, api.OK
}

// wrong notes an error, if there was none.
func (p *plain) wrong(is bool, err api.Errno) {
	if is && p.err == api.OK {
		p.err = err
	}
}

func (p *plain) types() {
	for _, typ := range p.m.Types {
		p.wrong(len(typ.Results) > 1, api.ErrType)
	}
	for _, x := range p.m.Imports {
		p.wrong(x.Type >= len(p.m.Types), api.ErrIndex)
	}
	for _, f := range p.m.Funcs {
		p.wrong(f.Type >= len(p.m.Types), api.ErrIndex)
	}
}

func (p *plain) limits() {
	p.wrong(len(p.m.Tables) > 1, api.ErrMany)
	for _, l := range p.m.Tables {
		p.wrong(l.Has && l.Min > l.Max, api.ErrType)
	}
	p.wrong(len(p.m.Mems) > 1, api.ErrMany)
	for _, l := range p.m.Mems {
		p.wrong(l.Has && l.Min > l.Max || l.Min > 65536 || l.Max > 65536, api.ErrType)
	}
}

func (p *plain) globals() {
	for _, g := range p.m.Globals {
		p.wrong(g.Init.Op == 0x23, api.ErrConst)
		p.wrong(g.Init.Op == 0x41 && g.Type != 127 || g.Init.Op == 0x42 && g.Type != 126, api.ErrType)
	}
}

func (p *plain) exports() {
	for i, x := range p.m.Exports {
		for _, ahead := range p.m.Exports[:i] {
			p.wrong(ahead.Name == x.Name, api.ErrTwice)
		}
		there := []int{len(p.m.Imports) + len(p.m.Funcs), len(p.m.Tables), len(p.m.Mems), len(p.m.Globals)}
		p.wrong(x.Index >= there[x.Kind], api.ErrIndex)
	}
}

// function is the type of a function, by letters; false, if there is none.
func (p *plain) function(n int) (params, results string, ok bool) {
	var all []int
	for _, x := range p.m.Imports {
		all = append(all, x.Type)
	}
	for _, f := range p.m.Funcs {
		all = append(all, f.Type)
	}
	if n >= len(all) || all[n] >= len(p.m.Types) {
		return "", "", false
	}
	typ := p.m.Types[all[n]]
	return lettersOf(typ.Params), lettersOf(typ.Results), true
}

func (p *plain) start() {
	for _, n := range p.m.Start {
		params, results, ok := p.function(n)
		p.wrong(!ok, api.ErrIndex)
		p.wrong(params+results != "", api.ErrType)
	}
}

// filled looks at Elems and Datas.
func (p *plain) filled() {
	offset := func(x api.Instr) {
		p.wrong(x.Op == 0x23, api.ErrConst)
		p.wrong(x.Op != 0x41, api.ErrType)
	}
	for _, e := range p.m.Elems {
		p.wrong(len(p.m.Tables) == 0, api.ErrIndex)
		offset(e.Offset)
		for _, n := range e.Funcs {
			p.wrong(n >= len(p.m.Imports)+len(p.m.Funcs), api.ErrIndex)
		}
	}
	for _, d := range p.m.Datas {
		p.wrong(len(p.m.Mems) == 0, api.ErrIndex)
		offset(d.Offset)
	}
}

// list types instructions in a frame of their own.
func (p *plain) list(l []api.Instr, label, end string) {
	p.frames = append(p.frames, plainFrame{label: label})
	for _, x := range l {
		if p.err == api.OK {
			p.instr(x)
		}
	}
	p.pop(end)
	p.wrong(p.last().stack != "", api.ErrType)
	p.frames = p.frames[:len(p.frames)-1]
}

func (p *plain) last() *plainFrame { return &p.frames[len(p.frames)-1] }

// one pops one type (* is any) and tells it.
func (p *plain) one(want string) string {
	f := p.last()
	if f.stack == "" {
		p.wrong(!f.dead, api.ErrType)
		return "?"
	}
	got := f.stack[len(f.stack)-1:]
	f.stack = f.stack[:len(f.stack)-1]
	p.wrong(got != want && got != "?" && want != "*", api.ErrType)
	return got
}

func (p *plain) pop(want string) {
	for ; want != ""; want = want[:len(want)-1] {
		p.one(want[len(want)-1:])
	}
}

func (p *plain) push(letters string) { p.last().stack += letters }

func (p *plain) turn(takes, tells string) {
	p.pop(takes)
	p.push(tells)
}

func (p *plain) dead() { p.last().stack, p.last().dead = "", true }

// label is that of a frame, if it is there.
func (p *plain) label(n int) string {
	if n >= len(p.frames) {
		p.wrong(true, api.ErrIndex)
		return ""
	}
	return p.frames[len(p.frames)-1-n].label
}

func (p *plain) instr(x api.Instr) {
	switch x.Op {
	case 0x00:
		p.dead()
	case 0x01:
	case 0x02, 0x03, 0x04:
		p.block(x)
	case 0x0c, 0x0d, 0x0e, 0x0f:
		p.branch(x)
	case 0x10, 0x11:
		p.call(x)
	case 0x1a:
		p.pop("*")
	case 0x1b:
		p.pop("i")
		a, b := p.one("*"), p.one("*")
		p.wrong(a != b && a != "?" && b != "?", api.ErrType)
		p.push(max(a, b)) // ? is ahead of both letters
	case 0x20, 0x21, 0x22, 0x23, 0x24:
		p.variable(x)
	case 0x3f, 0x40:
		p.wrong(len(p.m.Mems) == 0, api.ErrIndex)
		p.turn(map[int]string{0x40: "i"}[x.Op], "i")
	case 0x41:
		p.push("i")
	case 0x42:
		p.push("l")
	default:
		p.reckon(x)
	}
}

func (p *plain) block(x api.Instr) {
	end := lettersOf([]int{x.A})
	switch x.Op {
	case 0x02:
		p.list(x.Body, end, end)
	case 0x03:
		p.list(x.Body, "", end)
	case 0x04:
		p.pop("i")
		p.wrong(len(x.Else) == 0 && end != "", api.ErrType)
		p.list(x.Body, end, end)
		if len(x.Else) > 0 {
			p.list(x.Else, end, end)
		}
	}
	p.push(end)
}

func (p *plain) branch(x api.Instr) {
	switch x.Op {
	case 0x0c:
		p.pop(p.label(x.A))
		p.dead()
	case 0x0d:
		label := p.label(x.A)
		p.turn(label+"i", label)
	case 0x0e:
		label := p.label(x.A)
		var others []string
		for _, n := range x.Labels {
			others = append(others, p.label(n))
		}
		p.pop("i")
		for _, o := range others {
			p.wrong(o != label, api.ErrType)
		}
		p.pop(label)
		p.dead()
	case 0x0f:
		p.pop(p.frames[0].label)
		p.dead()
	}
}

func (p *plain) call(x api.Instr) {
	if x.Op == 0x10 {
		params, results, ok := p.function(x.A)
		p.wrong(!ok, api.ErrIndex)
		p.turn(params, results)
		return
	}
	if len(p.m.Tables) == 0 || x.A >= len(p.m.Types) {
		p.wrong(true, api.ErrIndex)
		return
	}
	typ := p.m.Types[x.A]
	p.turn(lettersOf(typ.Params)+"i", lettersOf(typ.Results))
}

func (p *plain) variable(x api.Instr) {
	types := p.locals
	if x.Op >= 0x23 {
		types = ""
		for _, g := range p.m.Globals {
			types += lettersOf([]int{g.Type})
		}
	}
	if x.A >= len(types) {
		p.wrong(true, api.ErrIndex)
		return
	}
	p.wrong(x.Op == 0x24 && !p.m.Globals[x.A].Mut, api.ErrConst)
	typ := types[x.A : x.A+1]
	switch x.Op {
	case 0x20, 0x23:
		p.push(typ)
	case 0x21, 0x24:
		p.pop(typ)
	case 0x22:
		p.turn(typ, typ)
	}
}

// reckon types the others: they take and tell what tables say.
func (p *plain) reckon(x api.Instr) {
	if a, ok := accesses[x.Op]; ok {
		p.wrong(len(p.m.Mems) == 0, api.ErrIndex)
		p.wrong(x.A >= 4 || 1<<x.A > a.bytes, api.ErrType)
		p.turn(a.takes, a.tells)
		return
	}
	params, result, ok := nums.Sig(x.Op)
	if !ok {
		panic(x.Op)
	}
	p.turn(lettersOf(params), lettersOf([]int{result}))
}
