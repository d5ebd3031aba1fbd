package wast

import (
	"math"
	"reflect"
	"slices"
	"strconv"
	"strings"
	"testing"
	"unicode/utf8"

	"athanor/api"
	"athanor/nums"
)

// chapterForms is the chapter's table: the bytes of each form, and what it has (r: A, a result; i: A, an index or the like; B, N, L: Labels; b: Body; e: Else).
var chapterForms = []struct {
	form       int
	bytes, has string
}{
	{1, "00 01 0f 1a 1b 3f 40 45-5a 67-8a a7 ac ad", ""},
	{2, "02 03", "rb"},
	{3, "04", "rbe"},
	{4, "0c 0d", "i"},
	{5, "0e", "iL"},
	{6, "10 20 21 22 23 24", "i"},
	{7, "11", "i"},
	{8, "28 29 2c-35 36 37 3a-3e", "iB"},
	{9, "41 42", "N"},
	{10, "2a 2b 38 39 43 44 5b-66 8b-a6 a8-ab ae-bf", "-"},
}

// formed is a form, and what it has.
type formed struct {
	form int
	has  string
}

// byByte is what the chapter's table says of each byte that stands in it.
var byByte = func() map[int]formed {
	out := map[int]formed{}
	for _, row := range chapterForms {
		for _, part := range strings.Fields(row.bytes) {
			first, last, isRange := strings.Cut(part, "-")
			if !isRange {
				last = first
			}
			from, _ := strconv.ParseInt(first, 16, 64)
			to, _ := strconv.ParseInt(last, 16, 64)
			for op := int(from); op <= int(to); op++ {
				out[op] = formed{row.form, row.has}
			}
		}
	}
	return out
}()

func TestFormOfEveryByte(t *testing.T) {
	for op := range 256 {
		if f := Form(op); f != byByte[op].form {
			t.Errorf("Form(%#x): %d, want %d", op, f, byByte[op].form)
		}
	}
}

// What nums takes for an instruction is of FormPlain, and the plain ones that it does not take are those that the chapter's table names one by one.
func TestFormOfReckoningBytes(t *testing.T) {
	others := []int{0x00, 0x01, 0x0f, 0x1a, 0x1b, 0x3f, 0x40}
	count := 0
	for op := -1 << 10; op <= 1<<10; op++ {
		_, _, reckons := nums.Sig(op)
		if reckons {
			count++
		}
		if plain := Form(op) == FormPlain; plain != (reckons || slices.Contains(others, op)) {
			t.Errorf("Form(%#x): %d; nums takes it for an instruction: %v", op, Form(op), reckons)
		}
	}
	if count != 0x5b-0x45+0x8b-0x67+3 {
		t.Error("nums takes", count, "numbers for instructions")
	}
}

func TestFormOfNumbersThatAreNoBytes(t *testing.T) {
	others := []int{math.MinInt, math.MinInt + 1, math.MinInt + 0x6a, math.MaxInt, math.MaxInt - 0xff, 1 << 31, 1 << 32, -1 << 31, -1 << 32}
	for op := range 256 {
		others = append(others, op-256, op+256, -op-1, op+1<<16, op+1<<32, op+math.MinInt, op-1<<32)
	}
	for _, op := range others {
		if f := Form(op); f != FormNone {
			t.Errorf("Form(%d): %d", op, f)
		}
	}
}

// plainName is whether s is a name, taken letter by letter and bit by bit.
func plainName(s string) bool {
	if len(s) > 64 {
		return false
	}
	for at := 0; at < len(s); {
		more, low := 0, 0
		first := int(s[at])
		letter := first
		switch {
		case first < 0x80:
		case first>>5 == 6:
			more, low, letter = 1, 0x80, first&0x1f
		case first>>4 == 14:
			more, low, letter = 2, 0x800, first&0x0f
		case first>>3 == 30:
			more, low, letter = 3, 0x10000, first&0x07
		default:
			return false
		}
		for range more {
			at++
			if at == len(s) || s[at]>>6 != 2 {
				return false
			}
			letter = letter<<6 | int(s[at]&0x3f)
		}
		at++
		if letter < low || letter > 0x10ffff || 0xd800 <= letter && letter <= 0xdfff {
			return false
		}
	}
	return true
}

func TestNames(t *testing.T) {
	for s, want := range map[string]bool{
		"": true, "a": true, "\x00": true, "\x7f": true, "main": true, "\n": true,
		"\xc2\x80": true, "\xdf\xbf": true, "\xe0\xa0\x80": true, "\xef\xbf\xbf": true, "\xed\x9f\xbf": true, "\xee\x80\x80": true, "\xf0\x90\x80\x80": true, "\xf4\x8f\xbf\xbf": true, "\xef\xbf\xbd": true, "\xef\xbb\xbf": true,
		// forms that are too long
		"\xc0\x80": false, "\xc1\xbf": false, "\xe0\x80\x80": false, "\xe0\x9f\xbf": false, "\xf0\x80\x80\x80": false, "\xf0\x8f\xbf\xbf": false, "\xf8\x88\x80\x80\x80": false,
		// surrogates, and what is above 10ffff
		"\xed\xa0\x80": false, "\xed\xbf\xbf": false, "\xed\xa0\xbd\xed\xb8\x80": false, "\xf4\x90\x80\x80": false, "\xf5\x80\x80\x80": false, "\xf7\xbf\xbf\xbf": false,
		// cut off, and bytes that begin nothing
		"\xc2": false, "\xe0\xa0": false, "\xe0": false, "\xf0\x90\x80": false, "\xf0\x90": false, "\xf0": false, "a\xc2": false, "\xc2a": false, "\xe0\xa0a": false, "\x80": false, "\xbf": false, "\xff": false, "\xfe": false, "ab\x80": false, "\xff\xfe": false,
	} {
		if Name(s) != want || plainName(s) != want {
			t.Errorf("Name(%q): %v", s, !want)
		}
	}
}

func TestNamesOfEveryLength(t *testing.T) {
	for _, letter := range []string{"a", "\u00e9", "\u20ac", "\U0001f600"} {
		for count := range 80 {
			s := strings.Repeat(letter, count)
			if Name(s) != (len(s) <= api.MaxName) {
				t.Errorf("%d bytes: %v", len(s), Name(s))
			}
			// Bytes are counted, not letters.
			for _, more := range []int{61, 62, 63, 64, 65} {
				if pad := more - len(s); pad >= 0 {
					if got := Name(strings.Repeat("x", pad) + s); got != (more <= 64) {
						t.Errorf("%d bytes, padded: %v", more, got)
					}
				}
			}
		}
	}
	if Name(strings.Repeat("a", 63)+"\xc2") || Name(strings.Repeat("a", 63)+"\u00e9") || !Name(strings.Repeat("a", 62)+"\u00e9") {
		t.Error("a letter over the end")
	}
	if Name(strings.Repeat("a", 1<<20)) {
		t.Error("a long text is a name")
	}
}

func TestNamesOfEveryLetter(t *testing.T) {
	for r := rune(0); r <= utf8.MaxRune; r++ {
		surrogate := 0xd800 <= r && r <= 0xdfff
		if s := string(r); !surrogate && (!Name(s) || !Name("x"+s+"y")) {
			t.Errorf("%#x is no name", r)
		}
		if s := string([]byte{byte(0xe0 | r>>12), byte(0x80 | r>>6&0x3f), byte(0x80 | r&0x3f)}); surrogate && Name(s) {
			t.Errorf("%#x is a name", r)
		}
	}
}

func TestNamesOfEdgeBytes(t *testing.T) {
	edges := []byte("\x00\x41\x7f\x80\x81\x8f\x90\x9f\xa0\xbf\xc0\xc1\xc2\xdf\xe0\xe1\xec\xed\xee\xef\xf0\xf1\xf3\xf4\xf5\xf7\xf8\xfb\xfc\xfe\xff")
	check := func(b ...byte) {
		if s := string(b); Name(s) != plainName(s) {
			t.Errorf("Name(%q): %v", s, Name(s))
		}
	}
	for a := range 256 {
		check(byte(a))
		for b := range 256 {
			check(byte(a), byte(b))
		}
	}
	for _, a := range edges {
		for _, b := range edges {
			for _, c := range edges {
				check(a, b, c)
				for _, d := range edges {
					check(a, b, c, d)
				}
			}
		}
	}
}

var (
	nop  = api.Instr{Op: 0x01}
	zero = api.Instr{Op: 0x41} // an I32's constant
)

// body is a module of one function.
func body(list ...api.Instr) api.Module {
	return api.Module{Funcs: []api.Func{{Body: list}}}
}

// nested is x within depth blocks: by Body, by Else, or by turns.
func nested(x api.Instr, depth int, byElse func(level int) bool) api.Instr {
	for level := range depth {
		if byElse(level) {
			x = api.Instr{Op: 0x04, Else: []api.Instr{x}}
		} else {
			x = api.Instr{Op: 0x02, Body: []api.Instr{x}}
		}
	}
	return x
}

func never(int) bool  { return false }
func always(int) bool { return true }
func odd(n int) bool  { return n%2 == 1 }

// many is a list of count times x.
func many[T any](x T, count int) []T { return slices.Repeat([]T{x}, count) }

// asked is a module, what it is about, and what Check must tell of it.
type asked struct {
	what string
	m    api.Module
	want api.Errno
}

func checkAll(t *testing.T, list []asked) {
	t.Helper()
	for _, x := range list {
		if err := Check(x.m); err != x.want {
			t.Errorf("%s: %v, want %v", x.what, err, x.want)
		}
		if err := plainCheck(x.m); err != x.want {
			t.Errorf("%s, checked plainly: %v, want %v", x.what, err, x.want)
		}
	}
}

// edges asks for f at its most, and one above it.
func edges(what string, most int, f func(count int) api.Module) []asked {
	return []asked{
		{what + ", none", f(0), api.OK},
		{what + ", one", f(1), api.OK},
		{what + ", at the most", f(most), api.OK},
		{what + ", one more", f(most + 1), api.ErrMany},
		{what + ", many more", f(3*most + 7), api.ErrMany},
	}
}

func TestListsAtTheirMost(t *testing.T) {
	global := api.Global{Type: api.I32, Init: zero}
	checkAll(t, slices.Concat(
		edges("Types", 4096, func(n int) api.Module { return api.Module{Types: make([]api.FuncType, n)} }),
		edges("Imports", 4096, func(n int) api.Module { return api.Module{Imports: make([]api.Import, n)} }),
		edges("Funcs", 4096, func(n int) api.Module { return api.Module{Funcs: make([]api.Func, n)} }),
		edges("Tables", 4096, func(n int) api.Module { return api.Module{Tables: make([]api.Limits, n)} }),
		edges("Mems", 4096, func(n int) api.Module { return api.Module{Mems: make([]api.Limits, n)} }),
		edges("Globals", 4096, func(n int) api.Module { return api.Module{Globals: many(global, n)} }),
		edges("Exports", 4096, func(n int) api.Module { return api.Module{Exports: make([]api.Export, n)} }),
		edges("Start", 1, func(n int) api.Module { return api.Module{Start: make([]int, n)} }),
		edges("Elems", 4096, func(n int) api.Module { return api.Module{Elems: many(api.Elem{Offset: zero}, n)} }),
		edges("Datas", 4096, func(n int) api.Module { return api.Module{Datas: many(api.Data{Offset: zero}, n)} }),
		edges("Params", 4096, func(n int) api.Module { return api.Module{Types: []api.FuncType{{Params: many(127, n)}}} }),
		edges("Results", 4096, func(n int) api.Module { return api.Module{Types: []api.FuncType{{}, {Results: many(126, n)}}} }),
		edges("Locals", 256, func(n int) api.Module { return api.Module{Funcs: []api.Func{{}, {Locals: many(126, n)}}} }),
		edges("Funcs of an Elem", 4096, func(n int) api.Module {
			return api.Module{Elems: []api.Elem{{Offset: zero}, {Offset: zero, Funcs: make([]int, n)}}}
		}),
		edges("Labels", 4096, func(n int) api.Module { return body(nop, api.Instr{Op: 0x0e, Labels: make([]int, n)}) }),
		edges("Labels within", 4096, func(n int) api.Module {
			return body(nested(api.Instr{Op: 0x0e, Labels: make([]int, n)}, 64, odd))
		}),
		edges("Labels by Else", 4096, func(n int) api.Module {
			return body(nested(api.Instr{Op: 0x0e, Labels: make([]int, n)}, 1, always))
		}),
	))
}

// Lists that are each short enough are not taken together.
func TestListsAreCountedOneByOne(t *testing.T) {
	checkAll(t, []asked{
		{"Params and Results", api.Module{Types: many(api.FuncType{Params: many(127, 4096), Results: many(127, 4096)}, 3)}, api.OK},
		{"Locals", api.Module{Funcs: many(api.Func{Locals: many(127, 256)}, 20)}, api.OK},
		{"Labels", body(many(api.Instr{Op: 0x0e, Labels: make([]int, 4096)}, 3)...), api.OK},
		{"Funcs of Elems", api.Module{Elems: many(api.Elem{Offset: zero, Funcs: make([]int, 4096)}, 3)}, api.OK},
		{"all lists", api.Module{Types: make([]api.FuncType, 4096), Imports: make([]api.Import, 4096), Funcs: make([]api.Func, 4096), Exports: make([]api.Export, 4096)}, api.OK},
		{"a body of more than 4096", body(many(nop, 5000)...), api.OK},
		{"a Body of more than 4096", body(api.Instr{Op: 0x04, Body: many(nop, 5000), Else: many(nop, 5000)}), api.OK},
	})
}

func TestInstructionsAtTheirMost(t *testing.T) {
	block := func(n int) api.Instr { return api.Instr{Op: 0x03, Body: many(nop, n)} }
	inElse := func(n int) api.Instr { return api.Instr{Op: 0x04, Else: many(nop, n)} }
	spread := func(n int) api.Module {
		m := api.Module{Funcs: make([]api.Func, 4096)}
		for i := range n {
			f := &m.Funcs[i%4096]
			f.Body = append(f.Body, nop)
		}
		return m
	}
	checkAll(t, slices.Concat(
		edges("in one body", 65536, func(n int) api.Module { return body(many(nop, n)...) }),
		edges("in many bodies", 65536, spread),
		[]asked{
			{"in a block, at the most", body(block(65535)), api.OK},
			{"in a block, one more", body(block(65536)), api.ErrMany},
			{"by Else, at the most", body(inElse(65535)), api.OK},
			{"by Else, one more", body(inElse(65536)), api.ErrMany},
			{"within, at the most", body(nested(block(65536-64), 63, odd)), api.OK},
			{"within, one more", body(nested(block(65536-63), 63, odd)), api.ErrMany},
			// Those in an instruction that may have none are instructions of the module, too.
			{"in a nop", body(api.Instr{Op: 0x01, Body: many(nop, 65536)}), api.ErrMany},
			{"in a nop's Else", body(api.Instr{Op: 0x01, Else: many(nop, 65536)}), api.ErrMany},
		},
	))
}

func TestBytesOfDatasAtTheirMost(t *testing.T) {
	data := func(count int) api.Data { return api.Data{Offset: zero, Bytes: strings.Repeat("\xff", count)} }
	checkAll(t, slices.Concat(
		edges("in one Data", 1<<18, func(n int) api.Module { return api.Module{Datas: []api.Data{data(n)}} }),
		edges("in two Datas", 1<<18, func(n int) api.Module { return api.Module{Datas: []api.Data{data(n / 2), data(n - n/2)}} }),
		[]asked{
			{"in all Datas, at the most", api.Module{Datas: many(data(64), 4096)}, api.OK},
			{"in all Datas, one more", api.Module{Datas: append(many(data(64), 4095), data(65))}, api.ErrMany},
			{"far above, in each", api.Module{Datas: many(data(1<<20), 3)}, api.ErrMany},
		},
	))
}

func TestNesting(t *testing.T) {
	var list []asked
	for _, byElse := range []func(int) bool{never, always, odd} {
		for _, x := range []struct {
			depth int
			want  api.Errno
		}{{0, api.OK}, {1, api.OK}, {63, api.OK}, {64, api.OK}, {65, api.ErrDeep}, {66, api.ErrDeep}, {1000, api.ErrDeep}, {65535, api.ErrDeep}} {
			what := strconv.Itoa(x.depth) + " deep"
			list = append(list, asked{what, body(nested(nop, x.depth, byElse)), x.want})
			if x.depth < 65535 {
				list = append(list, asked{what + ", in the last function", api.Module{Funcs: []api.Func{{}, {Body: []api.Instr{nop, nested(nop, x.depth, byElse)}}}}, x.want})
			}
		}
	}
	checkAll(t, append(list,
		asked{"65536 blocks within one another", body(nested(nop, 65536, never)), api.ErrMany},
		// An empty block as deep as it may be has nothing in it that is deeper.
		asked{"an empty block, 64 deep", body(nested(api.Instr{Op: 0x02}, 64, odd)), api.OK},
		asked{"an empty block, 65 deep", body(nested(api.Instr{Op: 0x02}, 65, odd)), api.ErrDeep},
		asked{"a nop with a Body, 64 deep", body(nested(api.Instr{Op: 0x01, Body: []api.Instr{nop}}, 64, odd)), api.ErrDeep},
		asked{"a nop with an Else, 64 deep", body(nested(api.Instr{Op: 0x01, Else: []api.Instr{nop}}, 64, odd)), api.ErrDeep},
		asked{"deep ones side by side", body(nested(nop, 64, never), nested(nop, 64, always), nested(nop, 64, odd)), api.OK},
	))
}

// A tree that is in itself has no end; who looks at it has.
func TestTreeInItself(t *testing.T) {
	list := []api.Instr{{Op: 0x02}, {Op: 0x02}}
	list[1].Body = list
	if err := Check(body(list...)); err != api.ErrMany {
		t.Error(err)
	}
	if n := Count(body(list...)); n != 65537 {
		t.Error(n)
	}
}

// numbersOf32 are numbers, and whether they are from 0 to 2^32 - 1.
func numbersOf32() map[int]bool {
	return map[int]bool{
		0: true, 1: true, 1 << 31: true, 1<<32 - 2: true, 1<<32 - 1: true,
		-1: false, -2: false, 1 << 32: false, 1<<32 + 1: false, -1 << 31: false, -1 << 32: false, math.MaxInt: false, math.MinInt: false, math.MinInt + 1: false,
	}
}

// wanted is OK or ErrShape.
func wanted(ok bool) api.Errno {
	if ok {
		return api.OK
	}
	return api.ErrShape
}

func TestIndices(t *testing.T) {
	for n, ok := range numbersOf32() {
		want := wanted(ok)
		checkAll(t, []asked{
			{"an import's type", api.Module{Imports: []api.Import{{}, {Type: n}}}, want},
			{"a function's type", api.Module{Funcs: []api.Func{{}, {Type: n}}}, want},
			{"an export's index", api.Module{Exports: []api.Export{{}, {Index: n}}}, want},
			{"Start", api.Module{Start: []int{n}}, want},
			{"Funcs of an Elem", api.Module{Elems: []api.Elem{{Offset: zero}, {Offset: zero, Funcs: []int{0, n, 0}}}}, want},
			{"a table's Min", api.Module{Tables: []api.Limits{{}, {Min: n}}}, want},
			{"a table's Max", api.Module{Tables: []api.Limits{{}, {Max: n, Has: true}}}, want},
			{"a memory's Min", api.Module{Mems: []api.Limits{{}, {Min: n}}}, want},
			{"a memory's Min, with Max", api.Module{Mems: []api.Limits{{Min: n, Max: 1, Has: true}}}, want},
			{"a memory's Max", api.Module{Mems: []api.Limits{{}, {Max: n, Has: true}}}, want},
			{"a memory's Max without Has", api.Module{Mems: []api.Limits{{}, {Max: n}}}, wanted(n == 0)},
			{"a table's Max without Has", api.Module{Tables: []api.Limits{{}, {Min: 3, Max: n}}}, wanted(n == 0)},
		})
	}
}

func TestLimitsNeedNoOrder(t *testing.T) {
	checkAll(t, []asked{
		{"Max below Min", api.Module{Mems: []api.Limits{{Min: 3, Max: 2, Has: true}}, Tables: []api.Limits{{Min: 1<<32 - 1, Has: true}}}, api.OK},
	})
}

func TestTypesOfValues(t *testing.T) {
	for n := -130; n < 400; n++ {
		want := wanted(n == 126 || n == 127)
		checkAll(t, []asked{
			{"a parameter", api.Module{Types: []api.FuncType{{}, {Params: []int{127, n, 126}}}}, want},
			{"a result", api.Module{Types: []api.FuncType{{}, {Results: []int{126, n, 127}}}}, want},
			{"a local", api.Module{Funcs: []api.Func{{}, {Locals: []int{126, n, 127}}}}, want},
			{"a global", api.Module{Globals: []api.Global{{Type: 127, Init: zero}, {Type: n, Init: zero}}}, want},
		})
	}
	for _, n := range []int{math.MinInt, math.MaxInt, 1<<32 + 127, 1<<16 + 126, -1 << 32} {
		checkAll(t, []asked{
			{"a parameter", api.Module{Types: []api.FuncType{{Params: []int{n}}}}, api.ErrShape},
			{"a local", api.Module{Funcs: []api.Func{{Locals: []int{n}}}}, api.ErrShape},
			{"a global", api.Module{Globals: []api.Global{{Type: n, Init: zero}}}, api.ErrShape},
		})
	}
}

func TestKindsOfExports(t *testing.T) {
	for _, kind := range []int{math.MinInt, -256, -1, 0, 1, 2, 3, 4, 5, 256, 1 << 32, math.MaxInt} {
		checkAll(t, []asked{{"an export's kind", api.Module{Exports: []api.Export{{}, {Kind: kind}}}, wanted(0 <= kind && kind <= 3)}})
	}
}

func TestNamesInModules(t *testing.T) {
	for s, ok := range map[string]bool{"": true, "a": true, strings.Repeat("a", 64): true, strings.Repeat("a", 65): false, "\xff": false, "\xed\xa0\x80": false, "\u20ac": true} {
		checkAll(t, []asked{
			{"an import's module", api.Module{Imports: []api.Import{{}, {Module: s, Name: "n"}}}, wanted(ok)},
			{"an import's name", api.Module{Imports: []api.Import{{}, {Module: "m", Name: s}}}, wanted(ok)},
			{"an export's name", api.Module{Exports: []api.Export{{}, {Name: s}}}, wanted(ok)},
			{"bytes are no name", api.Module{Datas: []api.Data{{Offset: zero, Bytes: s}}}, api.OK},
		})
	}
}

// constantIn are modules in which x is an Init, an Offset of an Elem, an Offset of a Data.
func constantIn(x api.Instr) []api.Module {
	return []api.Module{
		{Globals: []api.Global{{Type: api.I64, Mut: true, Init: zero}, {Type: api.I32, Init: x}}},
		{Elems: []api.Elem{{Offset: zero}, {Offset: x}}},
		{Datas: []api.Data{{Offset: zero}, {Offset: x}}},
	}
}

func checkConstants(t *testing.T, what string, x api.Instr, want api.Errno) {
	t.Helper()
	for _, m := range constantIn(x) {
		checkAll(t, []asked{{what, m, want}})
	}
}

func TestConstants(t *testing.T) {
	for op := -1; op < 260; op++ {
		checkConstants(t, "byte "+strconv.Itoa(op), api.Instr{Op: op}, wanted(op == 0x41 || op == 0x42 || op == 0x23))
	}
	for n, ok := range numbersOf32() {
		checkConstants(t, "a global's index", api.Instr{Op: 0x23, A: n}, wanted(ok))
	}
	for n, fits := range numbersWithSign() {
		checkConstants(t, "an I32", api.Instr{Op: 0x41, N: n}, wanted(fits))
		checkConstants(t, "an I64", api.Instr{Op: 0x42, N: n}, api.OK)
	}
}

// An Init or an Offset is looked at for ErrShape alone, whatever it has in it.
func TestConstantsAreNoInstructionsOfTheModule(t *testing.T) {
	list := []api.Instr{nested(nop, 65, never), nested(nop, 70000, odd), nested(api.Instr{Op: 0x0e, Labels: make([]int, 4097)}, 2, odd)}
	for _, op := range []int{0x41, 0x42, 0x23, 0x02, 0x04, 0x0e, 0x01, -7} {
		list = append(list,
			api.Instr{Op: op, A: -1},
			api.Instr{Op: op, Labels: make([]int, 4097)},
			api.Instr{Op: op, Body: many(nop, 65537)},
			api.Instr{Op: op, Else: many(nop, 65537)},
			api.Instr{Op: op, Body: []api.Instr{nested(nop, 100, odd)}},
			api.Instr{Op: op, Else: []api.Instr{{Op: 0x0e, Labels: make([]int, 4097)}}},
		)
	}
	for _, x := range list {
		checkConstants(t, "byte "+strconv.Itoa(x.Op), x, api.ErrShape)
		for _, m := range constantIn(x) {
			if n := Count(m); n != 0 {
				t.Errorf("Count, byte %#x: %d", x.Op, n)
			}
		}
	}
}

// numbersWithSign are numbers, and whether they are of 32 bits with sign.
func numbersWithSign() map[int]bool {
	return map[int]bool{
		0: true, 1: true, -1: true, 1<<31 - 1: true, -1 << 31: true, 1<<31 - 2: true, -1<<31 + 1: true,
		1 << 31: false, -1<<31 - 1: false, 1<<32 - 1: false, 1 << 32: false, -1 << 32: false, math.MaxInt: false, math.MinInt: false,
	}
}

// fieldsOf are the instructions of one byte that have one thing each, by its letter.
func fieldsOf(op int) map[string]api.Instr {
	return map[string]api.Instr{
		"B": {Op: op, B: 1}, "N": {Op: op, N: 1}, "L": {Op: op, Labels: []int{0}}, "b": {Op: op, Body: []api.Instr{nop}}, "e": {Op: op, Else: []api.Instr{nop}},
	}
}

func TestInstructionsAsTheirForms(t *testing.T) {
	for op := -2; op < 300; op++ {
		f, known := byByte[op]
		stands := known && f.form != FormFloat
		what := "byte " + strconv.Itoa(op)
		var list []asked
		ask := func(x api.Instr, ok bool) {
			list = append(list, asked{what, body(x), wanted(stands && ok)}, asked{what + ", within", body(nop, nested(x, 3, odd), nop), wanted(stands && ok)})
		}
		ask(api.Instr{Op: op}, true)
		ask(api.Instr{Op: op, Labels: []int{}, Body: []api.Instr{}, Else: []api.Instr{}}, true)
		for letter, x := range fieldsOf(op) {
			ask(x, strings.Contains(f.has, letter))
		}
		for _, n := range []int{1, 2, 64, 125, 126, 127, 128, 256 + 127, -1, math.MinInt, math.MaxInt} {
			ask(api.Instr{Op: op, A: n}, strings.Contains(f.has, "r") && (n == 126 || n == 127) || strings.Contains(f.has, "i") && 0 <= n && n < 1<<32)
		}
		for n, ok := range numbersOf32() {
			ask(api.Instr{Op: op, B: n}, n == 0 || ok && strings.Contains(f.has, "B"))
			ask(api.Instr{Op: op, A: n}, n == 0 || ok && strings.Contains(f.has, "i"))
			ask(api.Instr{Op: op, Labels: []int{0, n, 1}}, ok && strings.Contains(f.has, "L"))
		}
		for n, fits := range numbersWithSign() {
			ask(api.Instr{Op: op, N: n}, n == 0 || fits && op == 0x41 || op == 0x42)
		}
		checkAll(t, list)
	}
	for _, op := range []int{math.MinInt, math.MaxInt, 1<<32 + 1, 256 + 1, -255} {
		checkAll(t, []asked{{"no byte", body(api.Instr{Op: op}), api.ErrShape}})
	}
}

func TestInstructionsWithAllTheyMayHave(t *testing.T) {
	const most = 1<<32 - 1
	checkAll(t, []asked{
		{"block", body(api.Instr{Op: 0x02, A: api.I32, Body: []api.Instr{nop, nop}}), api.OK},
		{"loop", body(api.Instr{Op: 0x03, A: api.I64, Body: []api.Instr{nop, nop}}), api.OK},
		{"block with Else", body(api.Instr{Op: 0x02, A: api.I32, Body: []api.Instr{nop}, Else: []api.Instr{nop}}), api.ErrShape},
		{"if", body(api.Instr{Op: 0x04, A: api.I64, Body: []api.Instr{nop}, Else: []api.Instr{nop}}), api.OK},
		{"if and Labels", body(api.Instr{Op: 0x04, A: api.I64, Labels: []int{0}, Body: []api.Instr{nop}, Else: []api.Instr{nop}}), api.ErrShape},
		{"br_table", body(api.Instr{Op: 0x0e, A: most, Labels: []int{0, most, 7}}), api.OK},
		{"br_table and B", body(api.Instr{Op: 0x0e, A: most, B: 1, Labels: []int{0, most, 7}}), api.ErrShape},
		{"load", body(api.Instr{Op: 0x28, A: most, B: most}), api.OK},
		{"load and N", body(api.Instr{Op: 0x28, A: most, B: most, N: 1}), api.ErrShape},
		{"const and A", body(api.Instr{Op: 0x41, A: 1, N: 5}), api.ErrShape},
		{"wrong in a Body", body(api.Instr{Op: 0x04, Body: []api.Instr{nop, {Op: 5}}}), api.ErrShape},
		{"wrong in an Else", body(api.Instr{Op: 0x04, Else: []api.Instr{nop, {Op: 5}}}), api.ErrShape},
		{"wrong in the last function", api.Module{Funcs: []api.Func{{}, {Body: []api.Instr{nop, {Op: 0x92}}}}}, api.ErrShape},
	})
}

// shapeWrong, deepWrong and manyWrong are modules of which just that may be said, each for another reason.
func shapeWrong() []api.Module {
	return []api.Module{
		{Types: []api.FuncType{{Params: []int{5}}}}, {Imports: []api.Import{{Name: "\xff"}}}, body(api.Instr{Op: 0x92}), {Mems: []api.Limits{{Max: 1}}},
		{Globals: []api.Global{{}}}, {Exports: []api.Export{{Kind: 4}}}, {Start: []int{-1}}, {Elems: []api.Elem{{}}}, {Datas: []api.Data{{}}},
	}
}

func deepWrong() []api.Module {
	return []api.Module{body(nested(nop, 65, never)), body(nested(nop, 65, always)), {Funcs: []api.Func{{}, {Body: []api.Instr{nop, nested(nop, 70, odd)}}}}}
}

func manyWrong() []api.Module {
	return []api.Module{
		{Types: make([]api.FuncType, 4097)}, {Types: []api.FuncType{{Results: many(127, 4097)}}}, {Types: []api.FuncType{{Params: many(127, 4097)}}},
		{Imports: make([]api.Import, 4097)}, {Funcs: make([]api.Func, 4097)}, {Tables: make([]api.Limits, 4097)}, {Mems: make([]api.Limits, 4097)},
		{Globals: make([]api.Global, 4097)}, {Exports: make([]api.Export, 4097)}, {Start: []int{0, 0}}, {Elems: make([]api.Elem, 4097)}, {Datas: make([]api.Data, 4097)},
		{Elems: []api.Elem{{Funcs: make([]int, 4097)}}}, {Datas: []api.Data{{Bytes: strings.Repeat("a", 1<<18+1)}}}, {Funcs: []api.Func{{Locals: many(127, 257)}}},
		body(many(nop, 65537)...), body(nop, api.Instr{Op: 0x0e, Labels: make([]int, 4097)}),
		// Labels where none may be are too many of them first.
		body(api.Instr{Op: 0x01, Labels: make([]int, 4097)}), body(api.Instr{Op: 0x92, Labels: make([]int, 4097)}),
	}
}

// joined is one module with the lists of both, a's first.
func joined(a, b api.Module) api.Module {
	return api.Module{
		Types: slices.Concat(a.Types, b.Types), Imports: slices.Concat(a.Imports, b.Imports), Funcs: slices.Concat(a.Funcs, b.Funcs),
		Tables: slices.Concat(a.Tables, b.Tables), Mems: slices.Concat(a.Mems, b.Mems), Globals: slices.Concat(a.Globals, b.Globals),
		Exports: slices.Concat(a.Exports, b.Exports), Start: slices.Concat(a.Start, b.Start), Elems: slices.Concat(a.Elems, b.Elems), Datas: slices.Concat(a.Datas, b.Datas),
	}
}

func TestTheErrorThatIsNamedFirst(t *testing.T) {
	checkJoined := func(first, second []api.Module, want api.Errno) {
		for i, a := range first {
			for j, b := range second {
				what := strconv.Itoa(i) + " and " + strconv.Itoa(j)
				checkAll(t, []asked{{what, joined(a, b), want}, {what + ", the other first", joined(b, a), want}})
			}
		}
	}
	checkJoined(manyWrong(), deepWrong(), api.ErrMany)
	checkJoined(manyWrong(), shapeWrong()[:3], api.ErrMany)
	checkJoined(deepWrong(), shapeWrong()[:6], api.ErrDeep)
	checkJoined(manyWrong()[:1], shapeWrong(), api.ErrMany)
	for _, m := range deepWrong() {
		for _, wrong := range shapeWrong() {
			checkAll(t, []asked{{"all three", joined(joined(wrong, m), body(many(nop, 65537)...)), api.ErrMany}})
		}
	}
	checkAll(t, []asked{
		{"too deep within what has no Body", body(api.Instr{Op: 0x01, Body: []api.Instr{nested(nop, 64, odd)}}), api.ErrDeep},
		{"too deep within what may not stand", body(api.Instr{Op: -1, Else: []api.Instr{nested(nop, 64, odd)}}), api.ErrDeep},
		{"too many Labels, too deep", body(nested(api.Instr{Op: 0x0e, Labels: make([]int, 4097)}, 70, odd)), api.ErrMany},
		{"too many entries of one wrong type", api.Module{Types: []api.FuncType{{Params: many(5, 4097)}}}, api.ErrMany},
		{"too many wrong starts", api.Module{Start: []int{-1, -1}}, api.ErrMany},
	})
}

func TestCount(t *testing.T) {
	for _, x := range []struct {
		m    api.Module
		want int
	}{
		{api.Module{}, 0}, {body(), 0}, {body(nop), 1}, {body(nop, nop), 2},
		{body(nested(nop, 3, never)), 4}, {body(nested(nop, 3, always)), 4}, {body(nested(nop, 64, odd), nop), 66}, {body(nested(nop, 1000, odd)), 1001},
		{body(api.Instr{Op: 0x04, Body: many(nop, 3), Else: many(nop, 5)}), 9},
		{api.Module{Funcs: []api.Func{{Body: many(nop, 3)}, {}, {Body: []api.Instr{nested(nop, 2, odd)}}}}, 6},
		{body(many(nop, 65535)...), 65535}, {body(many(nop, 65536)...), 65536}, {body(many(nop, 65537)...), 65537}, {body(many(nop, 65538)...), 65537}, {body(many(nop, 1<<20)...), 65537},
		{body(nested(nop, 65535, odd)), 65536}, {body(nested(nop, 65536, odd)), 65537},
		{api.Module{Funcs: many(api.Func{Body: many(nop, 16)}, 4096)}, 65536}, {api.Module{Funcs: many(api.Func{Body: many(nop, 17)}, 4096)}, 65537},
		// Whatever else is wrong with the module.
		{api.Module{Funcs: many(api.Func{Body: []api.Instr{nop}}, 5000)}, 5000},
		{body(api.Instr{Op: -5, A: -1, Labels: make([]int, 5000), Body: []api.Instr{nop}, Else: []api.Instr{{Op: 0x92}}}), 3},
		{api.Module{Types: make([]api.FuncType, 5000), Start: []int{-1, -1}, Funcs: []api.Func{{Locals: make([]int, 300), Body: []api.Instr{nop}}}}, 1},
		{full(), 16},
	} {
		if n := Count(x.m); n != x.want {
			t.Errorf("Count: %d, want %d", n, x.want)
		}
	}
}

// full is a module that may be written, with something in every field.
func full() api.Module {
	return api.Module{
		Types:   []api.FuncType{{Params: []int{127, 126}, Results: []int{127}}, {Params: []int{126}, Results: []int{126, 127}}},
		Imports: []api.Import{{Module: "env", Name: "read", Type: 1}, {Module: "\u20ac", Name: "write", Type: 7}},
		Funcs: []api.Func{
			{Type: 1, Locals: []int{127, 126}, Body: []api.Instr{
				{Op: 0x20, A: 1}, {Op: 0x41, N: -5}, {Op: 0x6a}, {Op: 0x42, N: math.MinInt},
				{Op: 0x02, A: 127, Body: []api.Instr{{Op: 0x0c, A: 3}, {Op: 0x0e, A: 2, Labels: []int{0, 1}}, {Op: 0x01}}},
				{Op: 0x04, A: 126, Body: []api.Instr{{Op: 0x28, A: 2, B: 8}, {Op: 0x0d, A: 1}}, Else: []api.Instr{{Op: 0x03, Body: []api.Instr{{Op: 0x10, A: 9}}}, {Op: 0x11, A: 1}}},
			}},
			{Type: 2, Locals: []int{126}, Body: []api.Instr{{Op: 0x23, A: 4}, {Op: 0x0f}}},
		},
		Tables:  []api.Limits{{Min: 1, Max: 2, Has: true}, {Min: 3}},
		Mems:    []api.Limits{{Min: 4, Max: 5, Has: true}, {Min: 6}},
		Globals: []api.Global{{Type: 127, Mut: true, Init: api.Instr{Op: 0x41, N: 1}}, {Type: 126, Init: api.Instr{Op: 0x23, A: 1}}},
		Exports: []api.Export{{Name: "main", Kind: 3, Index: 1}, {Name: "m", Kind: 2, Index: 2}},
		Start:   []int{1},
		Elems:   []api.Elem{{Offset: api.Instr{Op: 0x41, N: 2}, Funcs: []int{1, 2}}, {Offset: api.Instr{Op: 0x23, A: 3}, Funcs: []int{4}}},
		Datas:   []api.Data{{Offset: api.Instr{Op: 0x42, N: 2}, Bytes: "\xff\x00"}, {Offset: api.Instr{Op: 0x23, A: 3}, Bytes: "b"}},
	}
}

// fields shows everything in v that is a number, a text, a bool or a list, in one order.
func fields(v reflect.Value, see func(v reflect.Value)) {
	switch v.Kind() {
	case reflect.Struct:
		for i := range v.NumField() {
			fields(v.Field(i), see)
		}
		return
	case reflect.Slice:
		for i := range v.Len() {
			fields(v.Index(i), see)
		}
	}
	see(v)
}

// countFields counts what fields shows of a module.
func countFields(m api.Module) int {
	count := 0
	fields(reflect.ValueOf(m), func(reflect.Value) { count++ })
	return count
}

// changed is a copy of m in which change was done to the field of that number.
func changed(m api.Module, number int, change func(v reflect.Value)) api.Module {
	out := copied(reflect.ValueOf(m)).Interface().(api.Module)
	fields(reflect.ValueOf(&out).Elem(), func(v reflect.Value) {
		if number == 0 {
			change(v)
		}
		number--
	})
	return out
}

// copied is v in new memory, the spare room of lists with it.
func copied(v reflect.Value) reflect.Value {
	out := reflect.New(v.Type()).Elem()
	out.Set(v)
	switch v.Kind() {
	case reflect.Struct:
		for i := range v.NumField() {
			out.Field(i).Set(copied(v.Field(i)))
		}
	case reflect.Slice:
		if v.IsNil() {
			break
		}
		all := v.Slice(0, v.Cap())
		out = reflect.MakeSlice(v.Type(), v.Cap(), v.Cap())
		for i := range v.Cap() {
			out.Index(i).Set(copied(all.Index(i)))
		}
		out = out.Slice(0, v.Len())
	}
	return out
}

// otherThan changes v to something else.
func otherThan(v reflect.Value) {
	switch v.Kind() {
	case reflect.Int:
		v.SetInt(v.Int() + 1)
	case reflect.Bool:
		v.SetBool(!v.Bool())
	case reflect.String:
		v.SetString(v.String() + "x")
	case reflect.Slice:
		v.Set(reflect.Append(v, reflect.Zero(v.Type().Elem())))
	}
}

// shorter takes the last entry of a list, or the last byte of a text, away.
func shorter(v reflect.Value) {
	switch {
	case v.Kind() == reflect.Slice && v.Len() > 0:
		v.Set(v.Slice(0, v.Len()-1))
	case v.Kind() == reflect.String && v.Len() > 0:
		v.SetString(v.String()[:v.Len()-1])
	}
}

// turned puts a list's entries the other way round.
func turned(v reflect.Value) {
	if v.Kind() == reflect.Slice && v.Len() > 1 {
		swap := reflect.Swapper(v.Interface())
		for i, j := 0, v.Len()-1; i < j; i, j = i+1, j-1 {
			swap(i, j)
		}
	}
}

func TestSameButForOneField(t *testing.T) {
	m := full()
	if again := full(); !Same(m, again) || !Same(m, m) {
		t.Fatal("a module is not the same as itself")
	}
	count := countFields(m)
	if count < 200 {
		t.Fatal("too few fields:", count)
	}
	for _, change := range []func(reflect.Value){otherThan, shorter, turned} {
		for number := range count {
			other := changed(m, number, change)
			want := reflect.DeepEqual(m, other)
			if Same(m, other) != want || Same(other, m) != want {
				t.Errorf("field %d changed: %v", number, !want)
			}
		}
	}
	if !reflect.DeepEqual(m, full()) {
		t.Error("the module was changed")
	}
}

// The same once more, each field written out.
func TestSameWrittenOut(t *testing.T) {
	instr := func(change func(x *api.Instr)) func(*api.Module) {
		return func(m *api.Module) { change(&m.Funcs[0].Body[4].Body[1]) }
	}
	for i, change := range []func(m *api.Module){
		func(m *api.Module) { m.Types[1].Params[0] = 127 }, func(m *api.Module) { m.Types[1].Results[1] = 126 },
		func(m *api.Module) { m.Imports[1].Module = "a" }, func(m *api.Module) { m.Imports[1].Name = "a" }, func(m *api.Module) { m.Imports[1].Type = 0 },
		func(m *api.Module) { m.Funcs[1].Type = 0 }, func(m *api.Module) { m.Funcs[1].Locals[0] = 127 }, func(m *api.Module) { m.Funcs[1].Body = nil },
		instr(func(x *api.Instr) { x.Op = 1 }), instr(func(x *api.Instr) { x.A = 0 }), instr(func(x *api.Instr) { x.B = 1 }), instr(func(x *api.Instr) { x.N = 1 }),
		instr(func(x *api.Instr) { x.Labels[1] = 5 }), instr(func(x *api.Instr) { x.Body = []api.Instr{{}} }), instr(func(x *api.Instr) { x.Else = []api.Instr{{}} }),
		func(m *api.Module) { m.Tables[0].Min = 0 }, func(m *api.Module) { m.Tables[0].Max = 0 }, func(m *api.Module) { m.Tables[1].Has = true },
		func(m *api.Module) { m.Mems[0].Min = 0 }, func(m *api.Module) { m.Mems[0].Max = 0 }, func(m *api.Module) { m.Mems[1].Has = true },
		func(m *api.Module) { m.Globals[1].Type = 0 }, func(m *api.Module) { m.Globals[1].Mut = true }, func(m *api.Module) { m.Globals[1].Init.A = 0 },
		func(m *api.Module) { m.Exports[1].Name = "" }, func(m *api.Module) { m.Exports[1].Kind = 0 }, func(m *api.Module) { m.Exports[1].Index = 0 },
		func(m *api.Module) { m.Start[0] = 0 }, func(m *api.Module) { m.Start = nil },
		func(m *api.Module) { m.Elems[1].Offset.A = 0 }, func(m *api.Module) { m.Elems[1].Funcs[0] = 0 },
		func(m *api.Module) { m.Datas[1].Offset.A = 0 }, func(m *api.Module) { m.Datas[1].Bytes = "" },
	} {
		a, b := full(), full()
		change(&b)
		if Same(a, b) || Same(b, a) {
			t.Errorf("change %d is not seen", i)
		}
		change(&a)
		if !Same(a, b) {
			t.Errorf("change %d in both is seen", i)
		}
	}
}

func TestSameOfAnyModules(t *testing.T) {
	deep, deeper := body(nested(nop, 65535, odd)), body(nested(nop, 65536, odd))
	other := body(nested(zero, 65535, odd))
	if !Same(deep, body(nested(nop, 65535, odd))) || Same(deep, deeper) || Same(deeper, deep) || Same(deep, other) {
		t.Error("deep ones")
	}
	wrong := body(api.Instr{Op: -1, A: math.MinInt, B: math.MaxInt, Labels: make([]int, 5000), Else: many(nop, 70000)})
	if !Same(wrong, changed(wrong, -1, nil)) || Same(wrong, api.Module{}) || Same(api.Module{}, wrong) {
		t.Error("wrong ones")
	}
	for i, a := range slices.Concat(shapeWrong(), deepWrong()) {
		for j, b := range slices.Concat(shapeWrong(), deepWrong()) {
			if Same(a, b) != (i == j) {
				t.Errorf("%d and %d", i, j)
			}
		}
	}
}

func TestNoListAndAnEmptyOne(t *testing.T) {
	for _, m := range []api.Module{{}, body(), body(nop), full(), {Types: make([]api.FuncType, 2), Elems: []api.Elem{{}}, Globals: []api.Global{{Init: zero}}}} {
		for number := range countFields(m) {
			empty := changed(m, number, func(v reflect.Value) {
				if v.Kind() == reflect.Slice && v.Len() == 0 {
					v.Set(reflect.MakeSlice(v.Type(), 0, 3))
				}
			})
			if !Same(m, empty) || !Same(empty, m) || Check(m) != Check(empty) || Count(m) != Count(empty) {
				t.Errorf("field %d as an empty list", number)
			}
		}
	}
}

func TestArgumentsStay(t *testing.T) {
	list := slices.Concat([]api.Module{full(), body(nested(nop, 65, odd), api.Instr{Op: 0x0e, Labels: make([]int, 3, 9)})}, shapeWrong(), deepWrong())
	for i, m := range list {
		// Spare room behind each list, so that whoever writes there is seen.
		for number := range countFields(m) {
			m = changed(m, number, func(v reflect.Value) {
				if v.Kind() == reflect.Slice {
					v.Set(reflect.AppendSlice(reflect.MakeSlice(v.Type(), 0, v.Len()+2), v))
				}
			})
		}
		whole := copied(reflect.ValueOf(m))
		err, count := Check(m), Count(m)
		same := Same(m, list[i])
		if !same || Check(m) != err || Count(m) != count || !alike(whole, reflect.ValueOf(m)) {
			t.Errorf("module %d is not as it was", i)
		}
	}
}

// alike tells whether a and b are the same, the spare room of lists with it.
func alike(a, b reflect.Value) bool {
	switch a.Kind() {
	case reflect.Struct:
		for i := range a.NumField() {
			if !alike(a.Field(i), b.Field(i)) {
				return false
			}
		}
		return true
	case reflect.Slice:
		if a.Len() != b.Len() || a.Cap() != b.Cap() {
			return false
		}
		a, b = a.Slice(0, a.Cap()), b.Slice(0, b.Cap())
		for i := range a.Len() {
			if !alike(a.Index(i), b.Index(i)) {
				return false
			}
		}
		return true
	}
	return a.Interface() == b.Interface()
}

func TestExamples(t *testing.T) {
	if Form(0x6a) != 1 || Form(0x92) != 10 || Form(0x05) != 0 {
		t.Error(Form(0x6a), Form(0x92), Form(0x05))
	}
	if err := Check(body(api.Instr{Op: 0x41, N: 1 << 31})); err != api.ErrShape {
		t.Error(err)
	}
}

// plain is what a look at a module, field by field, has found.
type plain struct {
	instrs, bytes, depth int
	many, deep, shape    bool
}

// plainCheck is Check, as the chapter's words stand.
func plainCheck(m api.Module) api.Errno {
	var p plain
	p.look(reflect.ValueOf(m), "Module")
	switch {
	case p.many || p.instrs > 65536 || p.bytes > 1<<18:
		return api.ErrMany
	case p.deep:
		return api.ErrDeep
	case p.shape:
		return api.ErrShape
	}
	return api.OK
}

// look looks at a value that stands in a field of that name (of a list: at each entry).
func (p *plain) look(v reflect.Value, name string) {
	switch v.Kind() {
	case reflect.Slice:
		p.lookAtList(v, name)
	case reflect.Struct:
		p.lookAtStruct(v, name)
	case reflect.Int:
		p.shape = p.shape || !plainNumber(int(v.Int()), name)
	case reflect.String:
		if name == "Data.Bytes" {
			p.bytes += v.Len()
		} else {
			p.shape = p.shape || !plainName(v.String())
		}
	}
}

func (p *plain) lookAtList(v reflect.Value, name string) {
	most := 4096
	switch name {
	case "Module.Start":
		most = 1
	case "Func.Locals":
		most = 256
	case "Func.Body", "Instr.Body", "Instr.Else":
		most = math.MaxInt
	}
	p.many = p.many || v.Len() > most
	for i := range v.Len() {
		p.look(v.Index(i), name)
	}
}

func (p *plain) lookAtStruct(v reflect.Value, name string) {
	switch x := v.Interface().(type) {
	case api.Instr:
		p.lookAtInstr(x, name)
		return
	case api.Limits:
		p.shape = p.shape || !x.Has && x.Max != 0
	}
	for i := range v.NumField() {
		p.look(v.Field(i), v.Type().Name()+"."+v.Type().Field(i).Name)
	}
}

func plainNumber(n int, name string) bool {
	switch name {
	case "FuncType.Params", "FuncType.Results", "Func.Locals", "Global.Type":
		return n == 127 || n == 126
	case "Export.Kind":
		return n == 0 || n == 1 || n == 2 || n == 3
	}
	return n>>32 == 0 // above 0 or below, there is a bit left
}

func (p *plain) lookAtInstr(x api.Instr, name string) {
	f, known := byByte[x.Op]
	p.shape = p.shape || !known || f.form == FormFloat || !plainParts(x, f.has)
	if name == "Global.Init" || strings.HasSuffix(name, ".Offset") {
		p.shape = p.shape || x.Op != 0x41 && x.Op != 0x42 && x.Op != 0x23
		return
	}
	p.instrs++
	p.many = p.many || len(x.Labels) > 4096
	p.deep = p.deep || p.depth > 64
	p.depth++
	p.look(reflect.ValueOf(x.Body), "Instr.Body")
	p.look(reflect.ValueOf(x.Else), "Instr.Else")
	p.depth--
}

// plainParts tells whether what an instruction has is what its form has.
func plainParts(x api.Instr, has string) bool {
	may := func(letter string) bool { return strings.Contains(has, letter) }
	labels := true
	for _, n := range x.Labels {
		labels = labels && n>>32 == 0
	}
	return (x.A == 0 || may("r") && (x.A == 127 || x.A == 126) || may("i") && x.A>>32 == 0) &&
		(x.B == 0 || may("B") && x.B>>32 == 0) &&
		(x.N == 0 || may("N") && (x.Op == 0x42 || x.N == int(int32(x.N)))) &&
		(len(x.Labels) == 0 || may("L") && labels) &&
		(len(x.Body) == 0 || may("b")) && (len(x.Else) == 0 || may("e"))
}

// chance is numbers all over, the same each time.
type chance uint64

func (c *chance) below(n int) int {
	*c ^= *c << 13
	*c ^= *c >> 7
	*c ^= *c << 17
	return int(uint64(*c) >> 1 % uint64(n))
}

// disturb changes a field to something near an edge.
func (c *chance) disturb(v reflect.Value) {
	switch v.Kind() {
	case reflect.Int:
		numbers := []int{0, 1, 2, 3, 4, 5, 0x0e, 0x23, 0x28, 0x41, 0x42, 0x43, 0x6a, 126, 127, 128, -1, 1<<31 - 1, 1 << 31, -1 << 31, -1<<31 - 1, 1<<32 - 1, 1 << 32, math.MaxInt, math.MinInt}
		v.SetInt(int64(numbers[c.below(len(numbers))]))
	case reflect.Bool:
		v.SetBool(!v.Bool())
	case reflect.String:
		v.SetString([]string{"", "\xff", strings.Repeat("a", 64), strings.Repeat("a", 65), "\u20ac"}[c.below(5)])
	case reflect.Slice:
		if c.below(2) == 0 {
			shorter(v)
		} else {
			otherThan(v)
		}
	}
}

func TestCheckOfDisturbedModules(t *testing.T) {
	c := chance(88172645463325252)
	seen := map[api.Errno]int{}
	for range 6000 {
		m := full()
		for range 1 + c.below(3) {
			m = changed(m, c.below(countFields(m)), c.disturb)
		}
		err := Check(m)
		seen[err]++
		if want := plainCheck(m); err != want {
			t.Errorf("%v: %v, want %v", m, err, want)
		}
	}
	if seen[api.OK] < 500 || seen[api.ErrShape] < 500 || seen[api.ErrMany] == 0 {
		t.Error("too few of a kind:", seen)
	}
}

func TestFullModule(t *testing.T) {
	checkAll(t, []asked{{"full", full(), api.OK}, {"empty", api.Module{}, api.OK}})
}

func FuzzNames(f *testing.F) {
	for _, s := range []string{"", "a", "\xc0\x80", "\xed\xa0\x80", "\xf4\x90\x80\x80", "\u20ac\U0001f600", strings.Repeat("a", 65)} {
		f.Add(s)
	}
	f.Fuzz(func(t *testing.T, s string) {
		if Name(s) != plainName(s) {
			t.Errorf("Name(%q): %v", s, Name(s))
		}
	})
}

func FuzzModules(f *testing.F) {
	f.Add(uint64(1), 0x41, 0, 0, 0)
	f.Add(uint64(7), 0x04, 127, 0, 0)
	f.Fuzz(func(t *testing.T, seed uint64, op, a, b, n int) {
		c := chance(seed | 1)
		m := changed(full(), c.below(countFields(full())), c.disturb)
		m.Funcs = append(m.Funcs, api.Func{Body: []api.Instr{{Op: op, A: a, B: b, N: n}}})
		if err, want := Check(m), plainCheck(m); err != want {
			t.Errorf("%v: %v, want %v", m, err, want)
		}
	})
}
