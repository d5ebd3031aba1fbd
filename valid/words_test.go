package valid

import (
	"slices"
	"strconv"
	"strings"

	"athanor/api"
)

// This file turns short texts into bodies and modules, so that the tests can say many of them.
//
// A body is words: i and l are constants of I32 and I64; names, and bytes as hexadecimal digits, are instructions, their number (A) behind a dot; tab has all its labels there, the last one A. block{ .. }, block:i{ .. }, loop{ .. }, if{ .. } and if{ .. }else{ .. } have others in them. As a label, F is the function's own frame, however deep it stands.

var names = map[string]int{
	"un": 0x00, "nop": 0x01, "block": 0x02, "loop": 0x03, "if": 0x04, "br": 0x0c, "brif": 0x0d, "tab": 0x0e, "ret": 0x0f, "call": 0x10, "ind": 0x11, "drop": 0x1a, "sel": 0x1b,
	"get": 0x20, "set": 0x21, "tee": 0x22, "gget": 0x23, "gset": 0x24, "size": 0x3f, "grow": 0x40, "i": 0x41, "l": 0x42,
}

// words is what is left of a text, and how many blocks are open.
type words struct {
	left  []string
	depth int
}

// instrs is the instructions that a text says.
func instrs(text string) []api.Instr {
	w := &words{left: strings.Fields(text)}
	list, end := w.list()
	if end != "" {
		panic(text)
	}
	return list
}

// list reads up to a word that begins with }, and tells that word.
func (w *words) list() (list []api.Instr, end string) {
	for len(w.left) > 0 {
		word := w.left[0]
		w.left = w.left[1:]
		if strings.HasPrefix(word, "}") {
			return list, word
		}
		if head, open := strings.CutSuffix(word, "{"); open {
			list = append(list, w.block(head))
			continue
		}
		list = append(list, w.simple(word))
	}
	return list, ""
}

func (w *words) block(head string) api.Instr {
	name, result, _ := strings.Cut(head, ":")
	x := api.Instr{Op: names[name]}
	for _, typ := range typesOf(result) {
		x.A = typ
	}
	var end string
	w.depth++
	if x.Body, end = w.list(); end == "}else{" {
		x.Else, end = w.list()
	}
	w.depth--
	if end != "}" {
		panic(head)
	}
	return x
}

func (w *words) simple(word string) api.Instr {
	name, rest, _ := strings.Cut(word, ".")
	op, known := names[name]
	if !known {
		n, err := strconv.ParseInt(name, 16, 64)
		if err != nil {
			panic(word)
		}
		op = int(n)
	}
	x := api.Instr{Op: op}
	if rest == "" {
		return x
	}
	numbers := strings.Split(rest, ",")
	last := len(numbers) - 1
	for _, n := range numbers[:last] {
		x.Labels = append(x.Labels, w.number(n))
	}
	x.A = w.number(numbers[last])
	return x
}

func (w *words) number(s string) int {
	if s == "F" {
		return w.depth
	}
	n, err := strconv.Atoi(s)
	if err != nil {
		panic(s)
	}
	return n
}

// typesOf is the types whose letters a text has.
func typesOf(letters string) []int {
	var out []int
	for _, c := range letters {
		out = append(out, map[rune]int{'i': api.I32, 'l': api.I64}[c])
	}
	return out
}

// lettersOf is the letters of types.
func lettersOf(types []int) string {
	out := ""
	for _, typ := range types {
		out += map[int]string{api.I32: "i", api.I64: "l"}[typ]
	}
	return out
}

// funcTypeOf is the type of Params > Results.
func funcTypeOf(s string) api.FuncType {
	params, results, _ := strings.Cut(s, ">")
	return api.FuncType{Params: typesOf(params), Results: typesOf(results)}
}

// constants is words that push values of these types.
func constants(letters string) string {
	return strings.Join(strings.Split(letters, ""), " ") + " "
}

// other is the other type's letter.
func other(letter string) string {
	return map[string]string{"i": "l", "l": "i"}[letter]
}

// The functions of a rich module ahead of its last one are of these types: the first two are imports.
var richTypes = []string{">", "li>l", ">i", "ill>i", "i>", ">l", "l>"}

// richNumber is the number of the last function of a rich module.
var richNumber = len(richTypes)

// rich is a module that has of everything, and behind its other functions one of that type (Params > Results), with those Locals, and that body. Its globals are I32, I64 (both Mut), I32, I64 (both not).
func rich(typ, locals, text string) api.Module {
	m := api.Module{
		Imports: []api.Import{{Module: "env", Name: "a", Type: 0}, {Module: "env", Name: "b", Type: 1}},
		Tables:  []api.Limits{{Min: 4, Max: 5, Has: true}},
		Mems:    []api.Limits{{Min: 1, Max: 2, Has: true}},
		Globals: []api.Global{{Type: api.I32, Mut: true, Init: zero}, {Type: api.I64, Mut: true, Init: long}, {Type: api.I32, Init: zero}, {Type: api.I64, Init: long}},
		Exports: []api.Export{{Name: "f", Kind: api.ExFunc, Index: richNumber}, {Name: "t", Kind: api.ExTable}, {Name: "m", Kind: api.ExMem}, {Name: "g", Kind: api.ExGlobal, Index: 3}},
		Start:   []int{0},
		Elems:   []api.Elem{{Offset: zero, Funcs: []int{0, 3, richNumber}}, {Offset: zero}},
		Datas:   []api.Data{{Offset: zero, Bytes: "abc"}, {Offset: zero}},
	}
	for i, s := range slices.Concat(richTypes, []string{typ}) {
		m.Types = append(m.Types, funcTypeOf(s))
		if i >= len(m.Imports) {
			m.Funcs = append(m.Funcs, api.Func{Type: i, Body: instrs("un")})
		}
	}
	last := &m.Funcs[len(m.Funcs)-1]
	last.Locals, last.Body = typesOf(locals), instrs(text)
	return m
}

var (
	zero = api.Instr{Op: 0x41} // an I32's constant
	long = api.Instr{Op: 0x42} // an I64's
	held = api.Instr{Op: 0x23} // what a global holds: it may be written, but no global is there for it
)

// poor is a module that has one function alone.
func poor(typ, locals, text string) api.Module {
	return api.Module{Types: []api.FuncType{funcTypeOf(typ)}, Funcs: []api.Func{{Locals: typesOf(locals), Body: instrs(text)}}}
}
