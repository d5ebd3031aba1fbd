package exec

import (
	"slices"
	"strconv"
	"strings"

	"athanor/api"
)

// This file turns short texts into modules, so that the tests can say many of them.
//
// A function is its type, its Locals behind a +, and behind a colon its body: "il>i+l: get.0". A body is words: i.5 and l.-7 are constants; names, and bytes as hexadecimal digits, are instructions, their number behind a dot (B of loads and stores, else A); tab has all its labels there, the last one A; ind has a type there, call a number or a letter: f is the first function of the module's own, g the second one, and so on. block{ .. }, block:i{ .. }, loop{ .. }, if{ .. } and if{ .. }else{ .. } have others in them. read, more, write, show and force are calls of the host.

var names = map[string]int{
	"un": 0x00, "nop": 0x01, "block": 0x02, "loop": 0x03, "if": 0x04, "br": 0x0c, "brif": 0x0d, "tab": 0x0e, "ret": 0x0f, "call": 0x10, "ind": 0x11, "drop": 0x1a, "sel": 0x1b,
	"get": 0x20, "set": 0x21, "tee": 0x22, "gget": 0x23, "gset": 0x24, "size": 0x3f, "grow": 0x40, "i": 0x41, "l": 0x42,
}

// hosts are the Imports of a built module, in their order; ownFirst is the number of the first function behind them.
var hosts = []string{"read", "more", "write", "show", "force"}

const ownFirst = 5

// words is what is left of a text, and the module that it is for.
type words struct {
	left []string
	m    *api.Module
}

// build is a module of these functions, exported as f, g and so on, with all that there may be beside: the host's functions, exported, too; a table of 8 places that nothing fills; a memory of one page that may have three; globals of I32 and I64, both Mut, and of both, not Mut.
func build(functions ...string) api.Module {
	m := api.Module{
		Tables:  []api.Limits{{Min: 8}},
		Mems:    []api.Limits{{Min: 1, Max: 3, Has: true}},
		Globals: []api.Global{{Type: api.I32, Mut: true, Init: number32(-5)}, {Type: api.I64, Mut: true, Init: number64(7)}, {Type: api.I32, Init: number32(11)}, {Type: api.I64, Init: number64(-1 << 40)}},
		Exports: []api.Export{{Name: "table", Kind: api.ExTable}, {Name: "memory", Kind: api.ExMem}, {Name: "global", Kind: api.ExGlobal, Index: 3}},
	}
	for i, name := range hosts {
		typ := ">i"
		if name == "write" || name == "show" {
			typ = "i>"
		}
		m.Imports = append(m.Imports, api.Import{Module: "env", Name: name, Type: typeIndex(&m, typ)})
		m.Exports = append(m.Exports, api.Export{Name: name, Index: i})
	}
	for i, s := range functions {
		m.Funcs = append(m.Funcs, functionOf(&m, s))
		m.Exports = append(m.Exports, api.Export{Name: string(rune('f' + i)), Index: ownFirst + i})
	}
	return m
}

// bare is a module that has nothing but these functions, exported as f, g and so on, and their types.
func bare(functions ...string) api.Module {
	var m api.Module
	for i, s := range functions {
		m.Funcs = append(m.Funcs, functionOf(&m, s))
		m.Exports = append(m.Exports, api.Export{Name: string(rune('f' + i)), Index: i})
	}
	return m
}

func number32(n int) api.Instr { return api.Instr{Op: 0x41, N: n} }

func number64(n int) api.Instr { return api.Instr{Op: 0x42, N: n} }

// functionOf is the function that a text says; types that are new are put behind the module's.
func functionOf(m *api.Module, s string) api.Func {
	head, body, _ := strings.Cut(s, ":")
	typ, locals, _ := strings.Cut(head, "+")
	return api.Func{Type: typeIndex(m, typ), Locals: typesOf(locals), Body: instrs(m, body)}
}

// typeIndex is the index of the type that a text says (Params > Results).
func typeIndex(m *api.Module, s string) int {
	want := funcTypeOf(s)
	n := slices.IndexFunc(m.Types, func(t api.FuncType) bool {
		return slices.Equal(t.Params, want.Params) && slices.Equal(t.Results, want.Results)
	})
	if n < 0 {
		n = len(m.Types)
		m.Types = append(m.Types, want)
	}
	return n
}

// funcTypeOf is the type that a text says.
func funcTypeOf(s string) api.FuncType {
	params, results, _ := strings.Cut(s, ">")
	return api.FuncType{Params: typesOf(params), Results: typesOf(results)}
}

// typesOf is the types whose letters a text has.
func typesOf(letters string) []int {
	var out []int
	for _, c := range letters {
		out = append(out, map[rune]int{'i': api.I32, 'l': api.I64}[c])
	}
	return out
}

// instrs is the instructions that a text says.
func instrs(m *api.Module, text string) []api.Instr {
	w := &words{strings.Fields(text), m}
	list, end := w.list()
	if end != "" {
		panic(text)
	}
	return list
}

// list reads up to a word that begins with }, and tells that word.
func (w *words) list() (list []api.Instr, end string) {
	for len(w.left) > 0 {
		word := w.left[0]
		w.left = w.left[1:]
		if strings.HasPrefix(word, "}") {
			return list, word
		}
		if head, open := strings.CutSuffix(word, "{"); open {
			list = append(list, w.block(head))
			continue
		}
		list = append(list, w.simple(word))
	}
	return list, ""
}

func (w *words) block(head string) api.Instr {
	name, result, _ := strings.Cut(head, ":")
	x := api.Instr{Op: names[name]}
	for _, typ := range typesOf(result) {
		x.A = typ
	}
	var end string
	if x.Body, end = w.list(); end == "}else{" {
		x.Else, end = w.list()
	}
	if end != "}" {
		panic(head)
	}
	return x
}

func (w *words) simple(word string) api.Instr {
	if n := slices.Index(hosts, word); n >= 0 {
		return api.Instr{Op: 0x10, A: n}
	}
	name, rest, has := strings.Cut(word, ".")
	op, known := names[name]
	if !known {
		n, err := strconv.ParseInt(name, 16, 64)
		if err != nil {
			panic(word)
		}
		op = int(n)
	}
	x := api.Instr{Op: op}
	if !has {
		return x
	}
	switch {
	case op == 0x11:
		x.A = typeIndex(w.m, rest)
	case op == 0x41 || op == 0x42:
		x.N = numberOf(rest)
	case 0x28 <= op && op <= 0x3e:
		x.B = numberOf(rest)
	default:
		list := strings.Split(rest, ",")
		last := len(list) - 1
		for _, s := range list[:last] {
			x.Labels = append(x.Labels, numberOf(s))
		}
		x.A = numberOf(list[last])
	}
	return x
}

// numberOf is a number, or that of a letter's function.
func numberOf(s string) int {
	if len(s) == 1 && 'f' <= s[0] && s[0] <= 'z' {
		return ownFirst + int(s[0]-'f')
	}
	n, err := strconv.Atoi(s)
	if err != nil {
		panic(s)
	}
	return n
}
