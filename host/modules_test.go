package host

import (
	"fmt"
	"reflect"
	"strconv"
	"strings"
	"testing"

	"athanor/api"
	"athanor/decode"
	"athanor/encode"
	"athanor/exec"
	"athanor/leb"
	"athanor/valid"
)

// This file makes the modules that the tests load, and runs bytes in the plainest way, to hold the package against.

// known is the bytes of the instructions that bodies are written with; those of a number are followed by it.
var known = map[string]string{
	"un": "\x00", "nop": "\x01", "block": "\x02\x40", "loop": "\x03\x40", "if": "\x04\x40", "end": "\x0b", "br": "\x0c", "ret": "\x0f", "call": "\x10", "ind": "\x11", "drop": "\x1a",
	"get": "\x20", "set": "\x21", "gget": "\x23", "gset": "\x24", "load": "\x28\x02\x00", "store": "\x36\x02\x00", "size": "\x3f\x00", "grow": "\x40\x00", "i": "\x41", "l": "\x42",
	"add": "\x6a", "sub": "\x6b", "mul": "\x6c", "div": "\x6d", "and": "\x71", "ladd": "\x7c", "wrap": "\xa7", "widen": "\xac",
	"read": "\x10\x00", "more": "\x10\x01", "write": "\x10\x02", "show": "\x10\x03", "force": "\x10\x04",
}

// code is the instructions that a text says, word by word, a number behind a dot.
func code(text string) []api.Instr {
	var s strings.Builder
	for _, word := range strings.Fields(text + " end") {
		name, number, has := strings.Cut(word, ".")
		if known[name] == "" {
			panic(word)
		}
		s.WriteString(known[name])
		if !has {
			continue
		}
		n, err := strconv.Atoi(number)
		if err != nil {
			panic(word)
		}
		s.WriteString(leb.PutS(int64(n))) // of what is not below 0 it is read the same without sign
		if name == "ind" {
			s.WriteByte(0)
		}
	}
	list, behind, err := decode.Expr(s.String(), 0)
	if err != api.OK || behind != s.Len() {
		panic(text)
	}
	return list
}

func number(n int) api.Instr { return api.Instr{Op: 0x41, N: n} }

// The types of the modules' functions, by their index.
const (
	nothing = iota // () -> ()
	tells          // () -> I32
	takes          // I32 -> ()
	turns          // I32 -> I32
	wide           // I64 -> I64
)

func types() []api.FuncType {
	i, l := []int{api.I32}, []int{api.I64}
	return []api.FuncType{{}, {Results: i}, {Params: i}, {Params: i, Results: i}, {Params: l, Results: l}}
}

// imports are the host's functions, whose numbers are 0 to 4; own is that of the first function behind them.
func imports() []api.Import {
	return []api.Import{{Module: "env", Name: "read", Type: tells}, {Module: "env", Name: "more", Type: tells}, {Module: "env", Name: "write", Type: takes}, {Module: "env", Name: "show", Type: takes}, {Module: "env", Name: "force", Type: tells}}
}

const own = 5

// named is a function with the name that it is exported by.
type named struct {
	name string
	typ  int
	text string
}

// workFuncs are the functions of work. Each leaves traces in the memory and in the globals, where it can.
func workFuncs() []named {
	return []named{
		{"start", nothing, "gget.0 i.1 add gset.0 i.0 i.0 load i.10 add store gget.0 write"},
		{"step", turns, "i.0 i.0 load get.0 add store gget.0 i.0 load add gset.0 force if i.1 grow drop end read show gget.0 i.0 load i.3 and ind.2 gget.0 write gget.0 size i.1000 mul add"},
		{"sum", takes, "gget.1 get.0 widen ladd gset.1 i.4 i.4 load get.0 add store i.4 load write"},
		{"triple", takes, "gget.0 i.3 mul gset.0 get.0 write"},
		{"spin", nothing, "loop i.0 i.0 load i.1 add store gget.0 i.1 add gset.0 i.8 i.0 load store br.0 end"},
		{"deep", nothing, "gget.0 i.1 add gset.0 call.10"},
		{"writes", nothing, "loop i.3 write br.0 end"},
		{"shows", nothing, "loop i.4 show br.0 end"},
		{"stop", nothing, "i.0 i.99 store i.77 gset.0 i.8 write un"},
		{"divide", turns, "i.0 i.98 store i.1 grow drop i.1 get.0 div"},
		{"over", turns, "i.-2147483648 get.0 div"},
		{"bounds", turns, "i.0 i.97 store get.0 load"},
		{"indirect", takes, "i.8 i.96 store i.1 get.0 ind.2"},
		{"wide", wide, "get.0 l.1 ladd"},
		{"listen", tells, "read read add force if i.50 gset.0 end gget.0 write more write force write"},
		{"peek", tells, "i.0 load gget.0 add gget.1 wrap add i.4 load add i.8 load add size i.100 mul add"},
	}
}

// work is a module with all that runs can write to: a memory of a page that may have three, globals, a table of 8 places of which the first five are filled; it has a Start.
func work() api.Module {
	m := api.Module{
		Types: types(), Imports: imports(), Start: []int{own},
		Tables:  []api.Limits{{Min: 8}},
		Mems:    []api.Limits{{Min: 1, Max: 3, Has: true}},
		Globals: []api.Global{{Type: api.I32, Mut: true, Init: number(5)}, {Type: api.I64, Mut: true, Init: api.Instr{Op: 0x42, N: -1 << 40}}},
		Exports: []api.Export{{Name: "table", Kind: api.ExTable}, {Name: "memory", Kind: api.ExMem}, {Name: "global", Kind: api.ExGlobal}, {Name: "read"}, {Name: "write", Index: 2}},
		Elems:   []api.Elem{{Offset: number(0), Funcs: []int{own + 2, own + 3, 2, 3, own + 1}}},
		Datas:   []api.Data{{Offset: number(0), Bytes: "\x07"}},
	}
	for i, f := range workFuncs() {
		m.Funcs = append(m.Funcs, api.Func{Type: f.typ, Body: code(f.text)})
		m.Exports = append(m.Exports, api.Export{Name: f.name, Index: own + i})
	}
	return m
}

// small is a module of one function, exported as f, without anything else.
func small(typ int, text string) api.Module {
	return api.Module{Types: types(), Funcs: []api.Func{{Type: typ, Body: code(text)}}, Exports: []api.Export{{Name: "f"}}}
}

// written is the bytes of a module.
func written(m api.Module) string {
	s, err := encode.Encode(m)
	if err != api.OK {
		panic(err)
	}
	return s
}

// changed is the bytes of a module to which something was done.
func changed(m api.Module, do func(m *api.Module)) string {
	do(&m)
	return written(m)
}

// loaded is the Binary of bytes that are not refused.
func loaded(t testing.TB, s string) *Binary {
	t.Helper()
	b, err := Load(s)
	if b == nil || err != api.OK {
		t.Fatalf("Load: %v, %v", b != nil, err)
	}
	return b
}

// ask is what a Run is asked.
type ask struct {
	name   string
	args   []int
	script api.Script
	fuel   int
}

func (a ask) String() string {
	return fmt.Sprintf("%q(%v) by %d inputs, %d answers, fuel %d", a.name, a.args, len(a.script.Inputs), len(a.script.Force), a.fuel)
}

// reply is what a Run answers.
type reply struct {
	out api.Outcome
	err api.Errno
}

func (a ask) of(b *Binary) reply {
	out, err := b.Run(a.name, a.args, a.script, a.fuel)
	return reply{out, err}
}

func (a ask) ofBytes(s string) reply {
	out, err := Run(s, a.name, a.args, a.script, a.fuel)
	return reply{out, err}
}

// plainLoad is the error that Load must tell.
func plainLoad(s string) (api.Module, api.Errno) {
	m, err := decode.Decode(s)
	if err == api.OK {
		err = valid.Validate(m)
	}
	return m, err
}

// plainly is what a run of bytes must answer, and whether it came to a Call.
func (a ask) plainly(s string) (r reply, came bool) {
	m, err := plainLoad(s)
	if err != api.OK {
		return reply{err: err}, false
	}
	x, err := exec.New(m, a.script)
	if err != api.OK {
		return reply{err: err}, false
	}
	r.out, r.err = x.Call(a.name, a.args, a.fuel)
	return r, true
}

// sameReply tells whether two replies are alike; nil and empty lists are.
func sameReply(a, b reply) bool {
	for _, o := range []*api.Outcome{&a.out, &b.out} {
		o.Results, o.Writes, o.Shows = append([]int{}, o.Results...), append([]int{}, o.Writes...), append([]int{}, o.Shows...)
	}
	return reflect.DeepEqual(a, b)
}

// refused is a reply that is nothing but an error.
func refused(err api.Errno) reply { return reply{err: err} }

func checkReply(t testing.TB, what string, got, want reply) {
	t.Helper()
	if !sameReply(got, want) {
		t.Errorf("%s: %+v, want %+v", what, got, want)
	}
}

func checkRuns(t testing.TB, what string, b *Binary, want int) {
	t.Helper()
	if got := b.Runs(); got != want {
		t.Errorf("%s: %d runs, want %d", what, got, want)
	}
}
