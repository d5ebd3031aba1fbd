package decode

import (
	"encoding/hex"
	"math"
	"reflect"
	"slices"
	"strings"
	"testing"
	"unsafe"

	"athanor/api"
	"athanor/encode"
	"athanor/leb"
	"athanor/wast"
)

// bytesOf is the bytes that are written as hexadecimal digits, with spaces between.
func bytesOf(digits string) string {
	b, err := hex.DecodeString(strings.ReplaceAll(digits, " ", ""))
	if err != nil {
		panic(digits)
	}
	return string(b)
}

// many is a list of count times x.
func many[T any](x T, count int) []T { return slices.Repeat([]T{x}, count) }

// short is the first bytes of a text, for a report.
func short(s string) string {
	return hex.EncodeToString([]byte(s[:min(len(s), 200)]))
}

// eight is the bytes that every module begins with.
var eight = bytesOf("00 61 73 6d 01 00 00 00")

// function is a module of one function, whose code this is.
func function(code ...string) string {
	s := strings.Join(code, "")
	return eight + section(3, "\x01\x00") + section(10, "\x01", u(len(s)), s)
}

// body is a module of one function without locals.
func body(bytes ...string) string {
	return function("\x00", strings.Join(bytes, ""))
}

// checkError wants an error, and nothing beside it.
func checkError(t *testing.T, what, s string, want api.Errno) {
	t.Helper()
	if m, err := Decode(s); err != want || !reflect.ValueOf(m).IsZero() {
		t.Errorf("%s: %s: %v, want %v", what, short(s), err, want)
	}
}

// checkModule wants a module out of bytes, and that it may be written, as no more bytes, that are read as the same.
func checkModule(t *testing.T, what, s string, want api.Module) {
	t.Helper()
	m, err := Decode(s)
	if err != api.OK || !wast.Same(m, want) {
		t.Errorf("%s: %s: %v, %v", what, short(s), m, err)
		return
	}
	checkAgain(t, s, m)
}

// checkAgain writes what was read from s, and reads it again.
func checkAgain(t *testing.T, s string, m api.Module) {
	t.Helper()
	if err := wast.Check(m); err != api.OK {
		t.Errorf("%s may not be written: %v", short(s), err)
	}
	b, err := encode.Encode(m)
	if err != api.OK || len(b) > len(s) {
		t.Errorf("%d bytes %s are written as %d, %v", len(s), short(s), len(b), err)
	}
	if again, err := Decode(b); err != api.OK || !wast.Same(m, again) {
		t.Errorf("%s is read again as %v, %v", short(b), again, err)
	}
}

// checkPlain holds Decode against the plain reader.
func checkPlain(t *testing.T, s string) api.Errno {
	t.Helper()
	want, wrong := plainDecode(s)
	if wrong == api.OK {
		checkModule(t, "as plainly", s, want)
	} else {
		checkError(t, "as plainly", s, wrong)
	}
	return wrong
}

// checkExpr does the same with Expr.
func checkExpr(t *testing.T, s string, at int) api.Errno {
	t.Helper()
	want, place, wrong := plainExpr(s, at)
	l, behind, err := Expr(s, at)
	if err != wrong || behind != place || !sameBody(l, want) || err != api.OK && l != nil {
		t.Errorf("%s at %d: %v, %d, %v, want %v, %d, %v", short(s), at, l, behind, err, want, place, wrong)
	}
	return wrong
}

func sameBody(a, b []api.Instr) bool {
	return wast.Same(api.Module{Funcs: []api.Func{{Body: a}}}, api.Module{Funcs: []api.Func{{Body: b}}})
}

func TestExamples(t *testing.T) {
	checkModule(t, "the eight bytes", eight, api.Module{})
	checkModule(t, "a custom section", eight+bytesOf("00 02 01 78"), api.Module{})
	checkError(t, "a section too long", eight+bytesOf("01 05 01 60 00 00 00"), api.ErrByte)
}

var zero = api.Instr{Op: 0x41} // an I32's constant

// alone is what may stand behind the eight bytes, and the module that it is.
var alone = []struct {
	what, bytes string
	m           api.Module
}{
	{"types", "01 10 03 60 00 00 60 00 02 7e 7f 60 03 7e 7f 7e 01 7f", api.Module{Types: []api.FuncType{{}, {Results: []int{126, 127}}, {Params: []int{126, 127, 126}, Results: []int{127}}}}},
	{"imports", "02 16 03 00 00 00 00 00 03 e2 82 ac 00 80 01 01 00 00 00 ff ff ff ff 0f", api.Module{Imports: []api.Import{{}, {Name: "\u20ac", Type: 128}, {Module: "\x00", Type: 1<<32 - 1}}}},
	{"an import", "02 0c 01 03 65 6e 76 04 72 65 61 64 00 05", api.Module{Imports: []api.Import{{Module: "env", Name: "read", Type: 5}}}},
	{"functions", "03 04 02 ac 02 00 0a 0a 02 03 00 01 0b 04 01 01 7e 0b", api.Module{Funcs: []api.Func{{Type: 300, Body: []api.Instr{{Op: 0x01}}}, {Locals: []int{126}}}}},
	{"tables", "04 09 02 70 01 01 02 70 00 ac 02", api.Module{Tables: []api.Limits{{Min: 1, Max: 2, Has: true}, {Min: 300}}}},
	{"memories", "05 13 03 01 80 01 7f 01 00 00 01 ff ff ff ff 0f ff ff ff ff 0f", api.Module{Mems: []api.Limits{{Min: 128, Max: 127, Has: true}, {Has: true}, {Min: 1<<32 - 1, Max: 1<<32 - 1, Has: true}}}},
	{"globals", "06 12 03 7f 00 41 00 0b 7e 01 42 80 7f 0b 7e 00 23 c8 01 0b", api.Module{Globals: []api.Global{{Type: 127, Init: zero}, {Type: 126, Mut: true, Init: api.Instr{Op: 0x42, N: -128}}, {Type: 126, Init: api.Instr{Op: 0x23, A: 200}}}}},
	{"exports", "07 14 04 00 00 00 01 74 01 02 03 6d 65 6d 02 00 01 67 03 80 80 01", api.Module{Exports: []api.Export{{}, {Name: "t", Kind: 1, Index: 2}, {Name: "mem", Kind: 2}, {Name: "g", Kind: 3, Index: 16384}}}},
	{"a start", "08 01 00", api.Module{Start: []int{0}}},
	{"a greater start", "08 05 ff ff ff ff 0f", api.Module{Start: []int{1<<32 - 1}}},
	{"elems", "09 0f 02 00 41 00 0b 00 00 23 01 0b 03 00 7f 80 01", api.Module{Elems: []api.Elem{{Offset: zero}, {Offset: api.Instr{Op: 0x23, A: 1}, Funcs: []int{0, 127, 128}}}}},
	{"datas", "0b 15 03 00 41 00 0b 00 00 41 c0 00 0b 03 00 ff 0b 00 42 7f 0b 01 61", api.Module{Datas: []api.Data{{Offset: zero}, {Offset: api.Instr{Op: 0x41, N: 64}, Bytes: "\x00\xff\x0b"}, {Offset: api.Instr{Op: 0x42, N: -1}, Bytes: "a"}}}},
	{"nothing in any list", "01 01 00 02 01 00 03 01 00 04 01 00 05 01 00 06 01 00 07 01 00 09 01 00 0a 01 00 0b 01 00", api.Module{}},
	{"runs of no locals, and of the type of the run ahead", "03 02 01 00 0a 12 01 10 07 01 7f 00 7e 01 7f 00 7f 03 7e 01 7e 00 7f 0b", api.Module{Funcs: []api.Func{{Locals: []int{127, 127, 126, 126, 126, 126}}}}},
	{"an if with 05 and nothing behind it", "03 02 01 00 0a 09 01 07 00 04 40 01 05 0b 0b", api.Module{Funcs: []api.Func{{Body: []api.Instr{{Op: 0x04, Body: []api.Instr{{Op: 0x01}}}}}}}},
	{"an if with 05 and nothing around it", "03 02 01 00 0a 08 01 06 00 04 7e 05 0b 0b", api.Module{Funcs: []api.Func{{Body: []api.Instr{{Op: 0x04, A: 126}}}}}},
	{"an if with an else alone", "03 02 01 00 0a 09 01 07 00 04 7f 05 01 0b 0b", api.Module{Funcs: []api.Func{{Body: []api.Instr{{Op: 0x04, A: 127, Else: []api.Instr{{Op: 0x01}}}}}}}},
}

func TestEachSectionAlone(t *testing.T) {
	for _, x := range alone {
		checkModule(t, x.what, eight+bytesOf(x.bytes), x.m)
		checkPlain(t, eight+bytesOf(x.bytes))
	}
}

// full is a module with something in every field, and instructions of every form.
func full() api.Module {
	return api.Module{
		Types:   []api.FuncType{{Params: []int{127, 126}, Results: []int{127}}, {Params: []int{126}, Results: []int{126, 127}}},
		Imports: []api.Import{{Module: "env", Name: "read", Type: 1}, {Module: "\u20ac", Name: "write", Type: 7}},
		Funcs: []api.Func{
			{Type: 1, Locals: []int{127, 127, 126, 127}, Body: []api.Instr{
				{Op: 0x20, A: 1}, {Op: 0x41, N: -5}, {Op: 0x6a}, {Op: 0x42, N: math.MinInt}, {Op: 0x3f}, {Op: 0x40}, {Op: 0x36, A: 2, B: 1 << 20},
				{Op: 0x02, A: 127, Body: []api.Instr{{Op: 0x0c, A: 3}, {Op: 0x0e, A: 2, Labels: []int{0, 1}}, {Op: 0x01}}},
				{Op: 0x04, A: 126, Body: []api.Instr{{Op: 0x28, A: 2, B: 8}, {Op: 0x0d, A: 1}}, Else: []api.Instr{{Op: 0x03, Body: []api.Instr{{Op: 0x10, A: 9}}}, {Op: 0x11, A: 1}}},
			}},
			{Type: 2, Locals: []int{126}, Body: []api.Instr{{Op: 0x23, A: 4}, {Op: 0x0f}}},
		},
		Tables:  []api.Limits{{Min: 1, Max: 2, Has: true}, {Min: 3}},
		Mems:    []api.Limits{{Min: 4, Max: 5, Has: true}, {Min: 6}},
		Globals: []api.Global{{Type: 127, Mut: true, Init: api.Instr{Op: 0x41, N: 1}}, {Type: 126, Init: api.Instr{Op: 0x23, A: 1}}},
		Exports: []api.Export{{Name: "main", Kind: 3, Index: 1}, {Name: "m", Kind: 2, Index: 2}},
		Start:   []int{1},
		Elems:   []api.Elem{{Offset: api.Instr{Op: 0x41, N: 2}, Funcs: []int{1, 2}}, {Offset: api.Instr{Op: 0x23, A: 3}, Funcs: []int{4}}},
		Datas:   []api.Data{{Offset: api.Instr{Op: 0x42, N: 2}, Bytes: "\xff\x00"}, {Offset: api.Instr{Op: 0x23, A: 3}, Bytes: "b"}},
	}
}

// fullBytes is what Encode writes of it, and the places where its sections begin, its end with them.
func fullBytes(t *testing.T) (s string, places []int) {
	s, err := encode.Encode(full())
	if err != api.OK {
		t.Fatal(err)
	}
	for at := len(eight); at < len(s); {
		places = append(places, at)
		size, behind, _ := leb.U(s, at+1, 32)
		at = behind + int(size)
	}
	if len(places) != 11 {
		t.Fatal("not every section is there")
	}
	return s, append(places, len(s))
}

func TestAllSectionsTogether(t *testing.T) {
	s, _ := fullBytes(t)
	checkModule(t, "everything", s, full())
	if m, _ := plainDecode(s); !wast.Same(m, full()) {
		t.Error("not so by the plain reader")
	}
}

// Every byte of a module that has everything, in turn every other byte: the error, or the module, is the plain reader's.
func TestEveryByteChanged(t *testing.T) {
	s, _ := fullBytes(t)
	seen := map[api.Errno]int{}
	for i := range s {
		for b := range 256 {
			seen[checkPlain(t, s[:i]+one(b)+s[i+1:])]++
		}
	}
	for _, err := range []api.Errno{api.OK, api.ErrByte, api.ErrFloat, api.ErrMany} {
		if seen[err] < 10 {
			t.Errorf("%v is answered %d times alone", err, seen[err])
		}
	}
}

// A byte more anywhere, and one less anywhere.
func TestEveryByteMoreOrLess(t *testing.T) {
	s, _ := fullBytes(t)
	for i := range s {
		checkPlain(t, s[:i]+s[i+1:])
		for _, b := range []int{0, 1, 5, 0x0b, 0x40, 0x43, 0x7d, 0x7f, 0x80, 0xff} {
			checkPlain(t, s[:i]+one(b)+s[i:])
		}
	}
}

func TestHeads(t *testing.T) {
	for i := range eight {
		checkError(t, "the head cut off", eight[:i], api.ErrByte)
		for b := range 256 {
			if one(b) != eight[i:i+1] {
				checkError(t, "another head", eight[:i]+one(b)+eight[i+1:], api.ErrByte)
			}
		}
	}
	checkError(t, "something ahead of it", "\x00"+eight, api.ErrByte)
	checkError(t, "twice", eight+eight, api.ErrByte)
	checkError(t, "version 2", bytesOf("00 61 73 6d 02 00 00 00"), api.ErrByte)
}

// wrongs is what may stand behind the eight bytes, and what is wrong with it.
var wrongs = []struct {
	what, bytes string
	err         api.Errno
}{
	{"no length", "01", api.ErrByte},
	{"a length cut off", "01 80", api.ErrByte},
	{"a length in six groups", "01 81 80 80 80 80 00 00", api.ErrByte},
	{"no list", "01 00", api.ErrByte},
	{"a count cut off by the section", "01 01 80 00", api.ErrByte},
	{"a count in six groups", "01 07 80 80 80 80 80 00 00", api.ErrByte},
	{"a count above 32 bits", "01 05 80 80 80 80 10", api.ErrByte},
	{"a count far above the most", "01 05 ff ff ff ff 0f", api.ErrMany},

	{"a type of another byte", "01 04 01 61 00 00", api.ErrByte},
	{"a type of the byte of a number", "01 04 01 7f 00 00", api.ErrByte},
	{"a type of the byte of a floating number", "01 04 01 7d 00 00", api.ErrByte},
	{"no results", "01 03 01 60 00", api.ErrByte},
	{"a floating parameter of 32 bits", "01 05 01 60 01 7d 00", api.ErrFloat},
	{"a floating parameter of 64 bits", "01 05 01 60 01 7c 00", api.ErrFloat},
	{"a floating result of 32 bits", "01 05 01 60 00 01 7d", api.ErrFloat},
	{"a floating result of 64 bits", "01 05 01 60 00 01 7c", api.ErrFloat},
	{"a vector", "01 05 01 60 01 7b 00", api.ErrByte},
	{"a parameter that is no type", "01 05 01 60 01 40 00", api.ErrByte},
	{"a result that is no type", "01 05 01 60 00 01 80", api.ErrByte},
	{"too few parameters", "01 05 01 60 02 7f 00", api.ErrByte},
	{"too many parameters", "01 03 01 60 81 20", api.ErrByte},
	{"too many parameters, within", "01 04 01 60 81 20", api.ErrMany},
	{"too many results", "01 05 01 60 00 81 20", api.ErrMany},

	{"an import of a table", "02 07 01 00 00 01 70 00 00", api.ErrByte},
	{"an import of a memory", "02 06 01 00 00 02 00 00", api.ErrByte},
	{"an import of a global", "02 06 01 00 00 03 7f 00", api.ErrByte},
	{"an import of a floating global", "02 06 01 00 00 03 7d 00", api.ErrByte},
	{"an import of kind 4", "02 05 01 00 00 04 00", api.ErrByte},
	{"an import without a type", "02 04 01 00 00 00", api.ErrByte},
	{"an import's type above 32 bits", "02 09 01 00 00 00 80 80 80 80 10", api.ErrByte},
	{"an import's module that is no name", "02 06 01 01 ff 00 00 00", api.ErrByte},
	{"an import's name that is no name", "02 06 01 00 01 c0 00 00", api.ErrByte},
	{"an import's name beyond the section", "02 05 01 00 03 00 00", api.ErrByte},
	{"too many imports", "02 02 81 20", api.ErrMany},

	{"a function's type above 32 bits", "03 06 01 ff ff ff ff 1f", api.ErrByte},
	{"too many functions", "03 02 81 20", api.ErrMany},

	{"a table of other things", "04 04 01 6f 00 00", api.ErrByte},
	{"a table of floating numbers", "04 04 01 7d 00 00", api.ErrByte},
	{"limits of byte 2", "04 04 01 70 02 00", api.ErrByte},
	{"limits without Min", "04 03 01 70 00", api.ErrByte},
	{"limits without Max", "04 04 01 70 01 00", api.ErrByte},
	{"too many tables", "04 02 81 20", api.ErrMany},
	{"a memory's limits of byte 2", "05 03 01 02 00", api.ErrByte},
	{"a memory's limits of byte 0 in two groups", "05 04 01 80 00 00", api.ErrByte},
	{"a memory's Min above 32 bits", "05 07 01 00 80 80 80 80 10", api.ErrByte},
	{"a memory's Max above 32 bits", "05 08 01 01 00 80 80 80 80 10", api.ErrByte},
	{"too many memories", "05 02 81 20", api.ErrMany},

	{"a floating global", "06 06 01 7d 00 41 00 0b", api.ErrFloat},
	{"a global of no type", "06 06 01 40 00 41 00 0b", api.ErrByte},
	{"a global that is neither", "06 06 01 7f 02 41 00 0b", api.ErrByte},
	{"a global without an Init", "06 04 01 7f 00 0b", api.ErrByte},
	{"a floating Init", "06 06 01 7f 00 43 00 0b", api.ErrFloat},
	{"an Init without an end", "06 06 01 7f 00 41 00 41", api.ErrByte},
	{"an Init with a floating number in the end's place", "06 06 01 7f 00 41 00 43", api.ErrByte},
	{"an Init of two", "06 08 01 7f 00 41 00 41 00 0b", api.ErrByte},
	{"an Init above 32 bits", "06 0a 01 7f 00 41 80 80 80 80 08 0b", api.ErrByte},
	{"too many globals", "06 02 81 20", api.ErrMany},

	{"an export that is no name", "07 05 01 01 80 00 00", api.ErrByte},
	{"an export of kind 4", "07 04 01 00 04 00", api.ErrByte},
	{"an export of kind 0 in two groups", "07 05 01 00 80 00 00", api.ErrByte},
	{"an export without an index", "07 03 01 00 00", api.ErrByte},
	{"too many exports", "07 02 81 20", api.ErrMany},

	{"a start of nothing", "08 00", api.ErrByte},
	{"two starts", "08 02 00 00", api.ErrByte},
	{"a start above 32 bits", "08 05 80 80 80 80 10", api.ErrByte},

	{"an elem of byte 1", "09 06 01 01 41 00 0b 00", api.ErrByte},
	{"an elem of byte 0 in two groups", "09 07 01 80 00 41 00 0b 00", api.ErrByte},
	{"a floating Offset of an elem", "09 06 01 00 44 00 0b 00", api.ErrFloat},
	{"an elem without functions", "09 05 01 00 41 00 0b", api.ErrByte},
	{"an elem of too many", "09 07 01 00 41 00 0b 81 20", api.ErrMany},
	{"an elem's function above 32 bits", "09 0b 01 00 41 00 0b 01 80 80 80 80 10", api.ErrByte},
	{"too many elems", "09 02 81 20", api.ErrMany},

	{"a data of byte 1", "0b 06 01 01 41 00 0b 00", api.ErrByte},
	{"a data of byte 2", "0b 07 01 02 00 41 00 0b 00", api.ErrByte},
	{"an Offset of a data that reckons", "0b 06 01 00 a7 00 0b 00", api.ErrByte},
	{"a floating Offset of a data", "0b 06 01 00 b2 00 0b 00", api.ErrFloat},
	{"a data without bytes", "0b 06 01 00 41 00 0b 01", api.ErrByte},
	{"a data beyond the section", "0b 06 01 00 41 00 0b 01 61", api.ErrByte},
	{"too many datas", "0b 02 81 20", api.ErrMany},

	{"section 12", "0c 01 00", api.ErrByte},
	{"section 13", "0d 01 00", api.ErrByte},
	{"section 128", "80 01 00", api.ErrByte},
	{"section 255", "ff 01 00", api.ErrByte},
	{"section 1 in two groups", "81 00 01 00", api.ErrByte},
}

func TestWrongSections(t *testing.T) {
	for _, x := range wrongs {
		checkError(t, x.what, eight+bytesOf(x.bytes), x.err)
		checkPlain(t, eight+bytesOf(x.bytes))
		checkError(t, x.what+", behind a custom section", eight+"\x00\x01\x00"+bytesOf(x.bytes), x.err)
	}
}

// wrongCodes is functions' code that something is wrong with.
var wrongCodes = []struct {
	what, bytes string
	err         api.Errno
}{
	{"nothing", "", api.ErrByte},
	{"no body", "00", api.ErrByte},
	{"a body without an end", "00 01", api.ErrByte},
	{"two ends", "00 0b 0b", api.ErrByte},
	{"an end, and a byte", "00 0b 01", api.ErrByte},
	{"a block without an end", "00 02 40 0b", api.ErrByte},
	{"an else in no if", "00 05 0b", api.ErrByte},
	{"an else in a block", "00 02 40 05 0b 0b", api.ErrByte},
	{"an else in a loop", "00 03 40 05 0b 0b", api.ErrByte},
	{"an else in a block in an if", "00 04 40 02 40 05 0b 0b 0b", api.ErrByte},
	{"two elses", "00 04 40 05 05 0b 0b", api.ErrByte},
	{"an else behind an if", "00 04 40 0b 05 0b", api.ErrByte},
	{"an if without an end", "00 04 40 05 0b", api.ErrByte},
	{"no instruction", "00 06 0b", api.ErrByte},
	{"the last byte", "00 ff 0b", api.ErrByte},
	{"a byte of later versions", "00 c0 0b", api.ErrByte},
	{"a floating instruction", "00 43 00 00 00 00 0b", api.ErrFloat},
	{"a floating load", "00 2a 02 00 0b", api.ErrFloat},
	{"a floating one at the end of all", "00 bf", api.ErrFloat},
	{"a floating one in an else", "00 04 40 05 92 0b 0b", api.ErrFloat},
	{"a floating result of 32 bits", "00 02 7d 0b 0b", api.ErrFloat},
	{"a floating result of 64 bits", "00 04 7c 0b 0b", api.ErrFloat},
	{"a result that is no type", "00 03 00 0b 0b", api.ErrByte},
	{"a result that is a type's number", "00 02 60 0b 0b", api.ErrByte},
	{"a result in two groups", "00 02 c0 7f 0b 0b", api.ErrByte},
	{"no result", "00 02", api.ErrByte},
	{"the size of memory 1", "00 3f 01 0b", api.ErrByte},
	{"memory 1 grows", "00 40 01 0b", api.ErrByte},
	{"the size of memory 0 in two groups", "00 3f 80 00 0b", api.ErrByte},
	{"a call by table 1", "00 11 00 01 0b", api.ErrByte},
	{"a call by no table", "00 11 00", api.ErrByte},
	{"a constant of 33 bits", "00 41 80 80 80 80 08 0b", api.ErrByte},
	{"a constant of 33 bits, below 0", "00 41 ff ff ff ff 77 0b", api.ErrByte},
	{"a constant in six groups", "00 41 80 80 80 80 80 00 0b", api.ErrByte},
	{"a constant of 65 bits", "00 42 80 80 80 80 80 80 80 80 80 01 0b", api.ErrByte},
	{"a constant in eleven groups", "00 42 80 80 80 80 80 80 80 80 80 80 00 0b", api.ErrByte},
	{"a constant cut off", "00 42 80", api.ErrByte},
	{"a label above 32 bits", "00 0c 80 80 80 80 10 0b", api.ErrByte},
	{"an index above 32 bits", "00 20 80 80 80 80 10 0b", api.ErrByte},
	{"an index in six groups", "00 20 80 80 80 80 80 00 0b", api.ErrByte},
	{"an alignment above 32 bits", "00 28 80 80 80 80 10 00 0b", api.ErrByte},
	{"an offset above 32 bits", "00 28 00 80 80 80 80 10 0b", api.ErrByte},
	{"too many labels", "00 0e 81 20 0b", api.ErrMany},
	{"a count of labels above 32 bits", "00 0e 81 80 80 80 10 0b", api.ErrByte},
	{"labels without a last one", "00 0e 02 00 00", api.ErrByte},
	{"a label that is none", "00 0e 01 80 80 80 80 10 00 0b", api.ErrByte},

	{"a local without a type", "01 01", api.ErrByte},
	{"a local of no type", "01 01 40 0b", api.ErrByte},
	{"a floating local", "01 01 7d 0b", api.ErrFloat},
	{"no floating local", "01 00 7c 0b", api.ErrFloat},
	{"no local of no type", "01 00 70 0b", api.ErrByte},
	{"too many runs", "81 20 0b", api.ErrMany},
	{"too many locals", "01 81 02 7f 0b", api.ErrMany},
	{"far too many locals", "01 ff ff ff ff 0f 7f 0b", api.ErrMany},
	{"too many locals in two runs", "02 80 02 7f 01 7e 0b", api.ErrMany},
	{"too many locals in two runs, one type", "02 ff 01 7f 02 7f 0b", api.ErrMany},
	{"far too many locals in the second run", "02 01 7f ff ff ff ff 0f 7e 0b", api.ErrMany},
	{"locals above 32 bits", "01 80 80 80 80 10 7f 0b", api.ErrByte},
}

func TestWrongCodes(t *testing.T) {
	for _, x := range wrongCodes {
		s := function(bytesOf(x.bytes))
		checkError(t, x.what, s, x.err)
		checkPlain(t, s)
		if code, ok := strings.CutPrefix(bytesOf(x.bytes), "\x00"); ok {
			checkExpr(t, code, 0)
		}
	}
}

// What is wrong first from the left tells the error, whatever is wrong behind it.
func TestTheFirstFromTheLeft(t *testing.T) {
	manyNops := strings.Repeat("\x01", 65537)
	deep := strings.Repeat("\x02\x40", 66)
	for _, x := range []struct {
		what, s string
		err     api.Errno
	}{
		{"a floating type ahead of too many types", eight + bytesOf("01 09 02 60 01 7d 00 60 81 20 00"), api.ErrFloat},
		{"too many types ahead of a floating one", eight + bytesOf("01 08 01 60 81 20 7d 7d 7d 7d"), api.ErrMany},
		{"a wrong byte ahead of a floating one", eight + bytesOf("01 05 01 61 01 7d 00"), api.ErrByte},
		{"a floating one in a section that is too long", eight + bytesOf("01 7f 01 60 01 7d 00"), api.ErrFloat},
		{"a floating one in a section that is far too long", eight + bytesOf("01 ff ff ff ff 0f 01 60 01 7d 00"), api.ErrFloat},
		{"too many in a section that is too long", eight + bytesOf("01 7f 81 20"), api.ErrMany},
		{"a section that is too short, ahead of a floating one", eight + bytesOf("01 04 01 60 01 7d 00"), api.ErrFloat},
		{"a section that ends ahead of a floating one", eight + bytesOf("01 03 01 60 01 7d 00"), api.ErrByte},
		{"a floating one in code that is longer than its section", eight + section(3, "\x01\x00") + bytesOf("0a 04 01 7f 00 43"), api.ErrFloat},
		{"a floating one behind the end of a section, within its code", eight + section(3, "\x01\x00") + bytesOf("0a 04 01 7f 00 01 43"), api.ErrByte},
		{"a floating one behind the end of its code", eight + section(3, "\x01\x00") + bytesOf("0a 06 01 02 00 01 43 0b"), api.ErrByte},
		{"a count of locals ahead of their floating type", function("\x01\x81\x02\x7d\x0b"), api.ErrMany},
		{"a floating local ahead of too many", function("\x02\x01\x7d\x80\x02\x7f\x0b"), api.ErrFloat},
		{"too many nops ahead of a floating one", body(manyNops, "\x43"), api.ErrMany},
		{"too many nops ahead of a byte that is none", body(manyNops, "\xff"), api.ErrMany},
		{"too deep ahead of a floating one", body(deep, "\x43"), api.ErrDeep},
		{"too deep ahead of its own result", body(deep[:len(deep)-1], "\x7d"), api.ErrDeep},
		{"too deep, and then too many", body(deep, manyNops), api.ErrDeep},
		{"too many, and then too deep", body(manyNops, deep), api.ErrMany},
		{"too many nops without an end", body(manyNops), api.ErrMany},
		{"functions without code, and a floating one behind", eight + bytesOf("03 02 01 00 06 06 01 7d 00 41 00 0b"), api.ErrFloat},
		{"functions without code, and too many datas", eight + bytesOf("03 02 01 00 0b 02 81 20"), api.ErrMany},
		{"a section too much behind a floating one", eight + bytesOf("06 06 01 7d 00 41 00 0b 06 01 00"), api.ErrFloat},
		{"a section that does not rise, ahead of a floating one in it", eight + bytesOf("06 01 00 06 06 01 7d 00 41 00 0b"), api.ErrByte},
		{"a section's length that is none, ahead of too many", eight + bytesOf("01 80 80 80 80 80 00 81 20"), api.ErrByte},
	} {
		checkError(t, x.what, x.s, x.err)
		checkPlain(t, x.s)
	}
}

// Two that are wrong at one byte or count: ErrByte, ErrFloat, ErrMany, ErrDeep, but at the count of codes.
func TestTwoAtOnePlace(t *testing.T) {
	deep := strings.Repeat("\x02\x40", 65)
	full := strings.Repeat("\x01", 65536-65) + deep
	for _, x := range []struct {
		what, bytes string
		err         api.Errno
	}{
		{"no instruction, too many", strings.Repeat("\x01", 65536) + "\xff", api.ErrByte},
		{"an else, too many", strings.Repeat("\x01", 65536) + "\x05", api.ErrByte},
		{"a floating one, too many", strings.Repeat("\x01", 65536) + "\x43", api.ErrFloat},
		{"no instruction, too deep", deep + "\xff", api.ErrByte},
		{"an else, too deep", deep + "\x05", api.ErrByte},
		{"a floating one, too deep", deep + "\x43", api.ErrFloat},
		{"an instruction too deep", deep + "\x01", api.ErrDeep},
		{"too many and too deep", full + "\x01", api.ErrMany},
		{"no instruction, too many and too deep", full + "\x06", api.ErrByte},
		{"a floating one, too many and too deep", full + "\x8b", api.ErrFloat},
	} {
		checkError(t, x.what, body(x.bytes), x.err)
		checkPlain(t, body(x.bytes))
		if l, behind, err := Expr(x.bytes, 0); err != x.err || behind != 0 || l != nil {
			t.Errorf("Expr, %s: %v, want %v", x.what, err, x.err)
		}
	}
	checkError(t, "too many codes, and not as many as functions", eight+bytesOf("0a 02 81 20"), api.ErrMany)
	checkError(t, "too many codes, one function", eight+bytesOf("03 02 01 00 0a 02 81 20"), api.ErrMany)
	checkError(t, "a count of codes that is none", eight+bytesOf("03 02 01 00 0a 05 81 80 80 80 10"), api.ErrByte)
	checkError(t, "a count of parameters that is none, and too many", eight+bytesOf("01 07 01 60 81 80 80 80 10"), api.ErrByte)
}

func TestCodesAndFunctions(t *testing.T) {
	code := "\x02\x00\x0b"
	for funcs := range 5 {
		for codes := range 5 {
			s := eight + section(3, u(funcs), strings.Repeat("\x00", funcs)) + section(10, u(codes), strings.Repeat(code, codes))
			if funcs == codes {
				checkModule(t, "as many", s, api.Module{Funcs: many(api.Func{}, funcs)})
			} else {
				checkError(t, "not as many", s, api.ErrByte)
			}
		}
	}
	// Of both sections one may be missing, where it would have nothing.
	checkModule(t, "no codes", eight+section(3, "\x00"), api.Module{})
	checkModule(t, "no functions", eight+section(10, "\x00"), api.Module{})
	for _, behind := range []string{"", section(0, "\x00"), section(9, "\x00"), section(11, "\x00"), section(11, "\x00") + section(0, "\x01x")} {
		checkError(t, "no section 10", eight+section(3, "\x01\x00")+behind, api.ErrByte)
		checkError(t, "no section 3", eight+section(10, "\x01", code)+behind, api.ErrByte)
		checkModule(t, "neither", eight+behind, api.Module{})
	}
	// The count is told wrong at the count: what is behind it is not looked at.
	checkError(t, "a floating one in a code too much", eight+section(10, "\x01\x03\x00\x43\x0b"), api.ErrByte)
	checkError(t, "a floating one in the first of too few", eight+section(3, "\x02\x00\x00")+section(10, "\x01\x03\x00\x43\x0b"), api.ErrByte)
	checkError(t, "one more than the most", eight+section(3, "\x80\x20", strings.Repeat("\x00", 4096))+section(10, "\x81\x20"), api.ErrMany)
	s := eight + section(3, "\x80\x20", strings.Repeat("\x00", 4096)) + section(10, "\x80\x20", strings.Repeat(code, 4096))
	checkModule(t, "the most", s, api.Module{Funcs: many(api.Func{}, 4096)})
	// Each code is that of the function in its place.
	checkModule(t, "codes in their order", eight+section(3, "\x02\x05\x06")+section(10, "\x02\x03\x00\x01\x0b\x04\x01\x01\x7e\x0b"),
		api.Module{Funcs: []api.Func{{Type: 5, Body: []api.Instr{{Op: 0x01}}}, {Type: 6, Locals: []int{126}}}})
}

// A section, or a code, is just as long as it says.
func TestLengths(t *testing.T) {
	s, places := fullBytes(t)
	for i, at := range places[:11] {
		size, behind, _ := leb.U(s, at+1, 32)
		within, rest := s[behind:places[i+1]], s[places[i+1]:]
		for _, wrong := range []int{0, int(size) - 1, int(size) + 1, int(size) + 2, len(s), 1<<32 - 1} {
			checkError(t, "another length", s[:at+1]+u(wrong)+within+rest, api.ErrByte)
			checkError(t, "another length of the last section", eight+one(i+1)+u(wrong)+within, api.ErrByte)
		}
		for b := range 256 {
			checkError(t, "a byte more in a section", s[:at+1]+u(int(size)+1)+within+one(b)+rest, api.ErrByte)
		}
	}
	for size, want := range []api.Errno{api.ErrByte, api.ErrByte, api.ErrByte, api.OK, api.ErrByte, api.ErrByte} {
		code := u(size) + "\x00\x01\x0b"
		for _, more := range []string{"", "\x00", "\x0b"} {
			s := eight + section(3, "\x01\x00") + section(10, "\x01", code, more)
			if want == api.OK && more == "" {
				checkModule(t, "a code's length", s, api.Module{Funcs: []api.Func{{Body: []api.Instr{{Op: 0x01}}}}})
			} else {
				checkError(t, "a code's length", s, api.ErrByte)
			}
			checkPlain(t, s)
		}
		checkPlain(t, eight+section(3, "\x02\x00\x00")+section(10, "\x02", code, "\x02\x00\x0b"))
	}
}

// Sections rise, each at most once, but for those of byte 0.
func TestTheOrderOfSections(t *testing.T) {
	for first := range 12 {
		for second := range 256 {
			s := eight
			for _, id := range []int{first, second} {
				if id == 10 && first == 3 {
					s += section(10, "\x01\x02\x00\x0b")
				} else {
					s += section(id, map[bool]string{false: "\x00", true: "\x01\x00"}[id == 3 && second == 10 && first == 3])
				}
			}
			err := checkPlain(t, s)
			if rises := second == 0 || first < second && second < 12; rises != (err == api.OK) {
				t.Errorf("%d and %d: %v", first, second, err)
			}
			if first > 0 && second <= first && second > 0 {
				checkError(t, "with another between", eight+section(first, "\x00")+section(0, "\x00")+section(second, "\x00"), api.ErrByte)
			}
		}
	}
	for id := range 256 {
		checkError(t, "a section of no bytes", eight+one(id)+"\x00", api.ErrByte)
		if id > 11 {
			checkError(t, "a section that is none, like a custom one", eight+section(id, "\x01x"), api.ErrByte)
			checkError(t, "a section that is none, and a floating global in it", eight+section(id, "\x01\x7d\x00\x41\x00\x0b"), api.ErrByte)
		}
	}
	s, places := fullBytes(t)
	for i := range 11 {
		part := s[places[i]:places[i+1]]
		checkError(t, "a section twice", s[:places[i]]+part+part+s[places[i+1]:], api.ErrByte)
		checkError(t, "a section again at the end", s+part, api.ErrByte)
		if i < 10 {
			checkError(t, "a section behind the next one", s[:places[i]]+s[places[i+1]:places[i+2]]+part+s[places[i+2]:], api.ErrByte)
		}
	}
}

func TestCustomSections(t *testing.T) {
	s, places := fullBytes(t)
	right := []string{
		section(0, "\x00"), section(0, "\x01x"), section(0, "\x01x\xff\xfe\x00"), section(0, "\x81\x80\x80\x80\x00x"), "\x00\x82\x00\x01x",
		section(0, u(64), strings.Repeat("a", 64)), section(0, u(65), strings.Repeat("a", 65)), section(0, u(3000), strings.Repeat("\u20ac", 1000), "\x80"),
		section(0, "\x04\U0010ffff"), section(0, "\x03\ufffd"), section(0, "\x01\x00", s),
	}
	wrong := []string{
		"\x00", "\x00\x00", "\x00\x01\x01", "\x00\x02\x03x", "\x00\x01\x80", "\x00\x06\x80\x80\x80\x80\x80\x00", "\x00\x05\x80\x80\x80\x80\x10",
		section(0, "\x01\xff"), section(0, "\x01\x80"), section(0, "\x02\xc0\x80"), section(0, "\x03\xed\xa0\x80"), section(0, "\x04\xf4\x90\x80\x80"), section(0, "\x02\u20ac"), section(0, "\x02\xc3\x28"),
		section(0, u(100), strings.Repeat("a", 99), "\xff"), section(0, "\xff\xff\xff\xff\x0f", "x"),
	}
	for _, place := range places {
		for _, x := range right {
			checkModule(t, "a custom section more", s[:place]+x+s[place:], full())
		}
		checkModule(t, "custom sections more", s[:place]+strings.Join(right, "")+s[place:], full())
		for _, x := range wrong {
			checkError(t, "a wrong custom section more", s[:place]+x+s[place:], api.ErrByte)
			checkPlain(t, s[:place]+x+s[place:])
		}
	}
	for size := range 4 {
		want := map[bool]api.Errno{true: api.OK, false: api.ErrByte}[size == 2]
		checkPlain(t, eight+"\x00"+u(size)+"\x01x")
		if _, err := Decode(eight + "\x00" + u(size) + "\x01x"); err != want {
			t.Errorf("%d bytes: %v", size, err)
		}
	}
	// They may be all that there is room for.
	rest := strings.Repeat("\xff", 1<<18-8-5)
	checkModule(t, "as long as may be", eight+section(0, "\x00", rest), api.Module{})
	checkError(t, "one byte longer", eight+section(0, "\x00", rest+"\xff"), api.ErrLong)
}

// Names are of at most MaxName bytes, in well-formed UTF-8.
func TestNames(t *testing.T) {
	for _, x := range []struct {
		name  string
		right bool
	}{
		{"", true}, {"\x00", true}, {"\u00e9", true}, {"\u20ac", true}, {"\ufffd", true}, {"\U0010ffff", true}, {strings.Repeat("a", 64), true}, {strings.Repeat("\u20ac", 21) + "a", true}, {strings.Repeat("\U0001f600", 16), true},
		{strings.Repeat("a", 65), false}, {strings.Repeat("\u20ac", 22), false}, {strings.Repeat("a", 5000), false}, {"\x80", false}, {"\xc0\x80", false}, {"\xed\xa0\x80", false}, {"\xf4\x90\x80\x80", false}, {"\xe2\x82", false}, {"a\xff", false}, {strings.Repeat("a", 63) + "\xff", false},
	} {
		name := u(len(x.name)) + x.name
		for what, s := range map[string]string{
			"module": section(2, "\x01", name, "\x01z\x00\x07"),
			"name":   section(2, "\x01\x01z", name, "\x00\x07"),
			"export": section(7, "\x01", name, "\x01\x07"),
		} {
			want := map[string]api.Module{
				"module": {Imports: []api.Import{{Module: x.name, Name: "z", Type: 7}}},
				"name":   {Imports: []api.Import{{Module: "z", Name: x.name, Type: 7}}},
				"export": {Exports: []api.Export{{Name: x.name, Kind: 1, Index: 7}}},
			}[what]
			if x.right {
				checkModule(t, what, eight+s, want)
			} else {
				checkError(t, what, eight+s, api.ErrByte)
			}
		}
	}
}

// numbers is the places where a number stands, each with what is ahead of it and behind it; bits is 0 for one without sign.
var numbers = []struct {
	what          string
	section       int
	ahead, behind string
	n, bits       int
	want          api.Module
}{
	{"a count of types", 1, "", "60 00 00", 1, 0, api.Module{Types: []api.FuncType{{}}}},
	{"a count of parameters", 1, "01 60", "7f 00", 1, 0, api.Module{Types: []api.FuncType{{Params: []int{127}}}}},
	{"a count of results", 1, "01 60 00", "7e", 1, 0, api.Module{Types: []api.FuncType{{Results: []int{126}}}}},
	{"a length of a module's name", 2, "01", "61 00 00 00", 1, 0, api.Module{Imports: []api.Import{{Module: "a"}}}},
	{"a length of a name", 2, "01 00", "61 00 00", 1, 0, api.Module{Imports: []api.Import{{Name: "a"}}}},
	{"an import's type", 2, "01 00 00 00", "", 1 << 20, 0, api.Module{Imports: []api.Import{{Type: 1 << 20}}}},
	{"a table's Min", 4, "01 70 00", "", 100, 0, api.Module{Tables: []api.Limits{{Min: 100}}}},
	{"a table's Max", 4, "01 70 01 00", "", 1<<32 - 1, 0, api.Module{Tables: []api.Limits{{Max: 1<<32 - 1, Has: true}}}},
	{"a memory's Min", 5, "01 01", "00", 127, 0, api.Module{Mems: []api.Limits{{Min: 127, Has: true}}}},
	{"a memory's Max", 5, "01 01 00", "", 128, 0, api.Module{Mems: []api.Limits{{Max: 128, Has: true}}}},
	{"an Init", 6, "01 7f 00 41", "0b", 5, 32, api.Module{Globals: []api.Global{{Type: 127, Init: api.Instr{Op: 0x41, N: 5}}}}},
	{"an Init below 0", 6, "01 7f 00 41", "0b", -64, 32, api.Module{Globals: []api.Global{{Type: 127, Init: api.Instr{Op: 0x41, N: -64}}}}},
	{"the least Init of 32 bits", 6, "01 7f 00 41", "0b", math.MinInt32, 32, api.Module{Globals: []api.Global{{Type: 127, Init: api.Instr{Op: 0x41, N: math.MinInt32}}}}},
	{"the greatest Init of 32 bits", 6, "01 7f 00 41", "0b", math.MaxInt32, 32, api.Module{Globals: []api.Global{{Type: 127, Init: api.Instr{Op: 0x41, N: math.MaxInt32}}}}},
	{"an Init of 64 bits", 6, "01 7e 00 42", "0b", 64, 64, api.Module{Globals: []api.Global{{Type: 126, Init: api.Instr{Op: 0x42, N: 64}}}}},
	{"an Init of 64 bits below 0", 6, "01 7e 00 42", "0b", -1, 64, api.Module{Globals: []api.Global{{Type: 126, Init: api.Instr{Op: 0x42, N: -1}}}}},
	{"the least Init of 64 bits", 6, "01 7e 00 42", "0b", math.MinInt, 64, api.Module{Globals: []api.Global{{Type: 126, Init: api.Instr{Op: 0x42, N: math.MinInt}}}}},
	{"the greatest Init of 64 bits", 6, "01 7e 00 42", "0b", math.MaxInt, 64, api.Module{Globals: []api.Global{{Type: 126, Init: api.Instr{Op: 0x42, N: math.MaxInt}}}}},
	{"an Init by a global", 6, "01 7f 00 23", "0b", 5, 0, api.Module{Globals: []api.Global{{Type: 127, Init: api.Instr{Op: 0x23, A: 5}}}}},
	{"an export's index", 7, "01 00 03", "", 300, 0, api.Module{Exports: []api.Export{{Kind: 3, Index: 300}}}},
	{"a start", 8, "", "", 70000, 0, api.Module{Start: []int{70000}}},
	{"an Offset of an elem", 9, "01 00 41", "0b 00", -70, 32, api.Module{Elems: []api.Elem{{Offset: api.Instr{Op: 0x41, N: -70}}}}},
	{"a count of an elem's functions", 9, "01 00 41 00 0b", "07 08", 2, 0, api.Module{Elems: []api.Elem{{Offset: zero, Funcs: []int{7, 8}}}}},
	{"a function of an elem", 9, "01 00 41 00 0b 02 03", "", 9, 0, api.Module{Elems: []api.Elem{{Offset: zero, Funcs: []int{3, 9}}}}},
	{"an Offset of a data", 11, "01 00 42", "0b 00", 1 << 40, 64, api.Module{Datas: []api.Data{{Offset: api.Instr{Op: 0x42, N: 1 << 40}}}}},
	{"a count of a data's bytes", 11, "01 00 41 00 0b", "61 62 63", 3, 0, api.Module{Datas: []api.Data{{Offset: zero, Bytes: "abc"}}}},
}

// waysToWrite is a number in every count of groups that may be read, and in one more than that.
func waysToWrite(n, bits int) (right []string, wrong string) {
	most := 5
	if bits == 64 {
		most = 10
	}
	for count := 1; count <= most; count++ {
		room := 7 * count
		if bits > 0 {
			room--
		}
		if room > 62 || -1<<room <= n && n < 1<<room {
			right = append(right, groups(n, count))
		}
	}
	return right, groups(n, most+1)
}

func TestNumbersInMoreGroups(t *testing.T) {
	for _, x := range numbers {
		right, wrong := waysToWrite(x.n, x.bits)
		for _, n := range right {
			checkModule(t, x.what, eight+section(x.section, bytesOf(x.ahead), n, bytesOf(x.behind)), x.want)
		}
		checkError(t, x.what, eight+section(x.section, bytesOf(x.ahead), wrong, bytesOf(x.behind)), api.ErrByte)
	}
	oneFunction := section(3, "\x01\x00")
	for what, x := range map[string]struct {
		n    int
		with func(n string) string
		want api.Module
	}{
		"a section's length":        {3, func(n string) string { return "\x05" + n + "\x01\x00\x06" }, api.Module{Mems: []api.Limits{{Min: 6}}}},
		"a custom section's length": {2, func(n string) string { return "\x00" + n + "\x01x" }, api.Module{}},
		"a custom section's name":   {1, func(n string) string { return section(0, n, "x\xff") }, api.Module{}},
		"a function's type":         {9, func(n string) string { return section(3, "\x01", n) + section(10, "\x01\x02\x00\x0b") }, api.Module{Funcs: []api.Func{{Type: 9}}}},
		"the greatest type":         {1<<32 - 1, func(n string) string { return section(3, "\x01", n) + section(10, "\x01\x02\x00\x0b") }, api.Module{Funcs: []api.Func{{Type: 1<<32 - 1}}}},
		"a count of functions":      {1, func(n string) string { return section(3, n, "\x00") + section(10, "\x01\x02\x00\x0b") }, api.Module{Funcs: []api.Func{{}}}},
		"a count of codes":          {1, func(n string) string { return oneFunction + section(10, n, "\x02\x00\x0b") }, api.Module{Funcs: []api.Func{{}}}},
		"a code's length":           {2, func(n string) string { return oneFunction + section(10, "\x01", n, "\x00\x0b") }, api.Module{Funcs: []api.Func{{}}}},
		"a count of runs":           {1, func(n string) string { return function(n, "\x01\x7f\x0b")[len(eight):] }, api.Module{Funcs: []api.Func{{Locals: []int{127}}}}},
		"a count of locals":         {2, func(n string) string { return function("\x01", n, "\x7f\x0b")[len(eight):] }, api.Module{Funcs: []api.Func{{Locals: []int{127, 127}}}}},
		"a count of no datas":       {0, func(n string) string { return section(11, n) }, api.Module{}},
	} {
		right, wrong := waysToWrite(x.n, 0)
		for _, n := range right {
			checkModule(t, what, eight+x.with(n), x.want)
		}
		checkError(t, what, eight+x.with(wrong), api.ErrByte)
	}
}

// behinds is instructions with what stands behind their bytes, of every form.
var behinds = []struct {
	bytes string
	want  api.Instr
}{
	{"00", api.Instr{Op: 0x00}}, {"0f", api.Instr{Op: 0x0f}}, {"1a", api.Instr{Op: 0x1a}}, {"1b", api.Instr{Op: 0x1b}}, {"6a", api.Instr{Op: 0x6a}}, {"8a", api.Instr{Op: 0x8a}}, {"ad", api.Instr{Op: 0xad}},
	{"3f 00", api.Instr{Op: 0x3f}}, {"40 00", api.Instr{Op: 0x40}},
	{"02 40 0b", api.Instr{Op: 0x02}}, {"02 7f 01 0b", api.Instr{Op: 0x02, A: 127, Body: []api.Instr{{Op: 0x01}}}}, {"03 7e 0b", api.Instr{Op: 0x03, A: 126}},
	{"04 40 0b", api.Instr{Op: 0x04}}, {"04 40 05 0b", api.Instr{Op: 0x04}}, {"04 7f 00 05 0b", api.Instr{Op: 0x04, A: 127, Body: []api.Instr{{}}}}, {"04 7e 05 00 01 0b", api.Instr{Op: 0x04, A: 126, Else: []api.Instr{{}, {Op: 0x01}}}},
	{"04 40 04 40 05 0b 05 04 40 01 0b 0b", api.Instr{Op: 0x04, Body: []api.Instr{{Op: 0x04}}, Else: []api.Instr{{Op: 0x04, Body: []api.Instr{{Op: 0x01}}}}}},
	{"02 40 03 40 04 40 0b 0b 01 0b", api.Instr{Op: 0x02, Body: []api.Instr{{Op: 0x03, Body: []api.Instr{{Op: 0x04}}}, {Op: 0x01}}}},
	{"0c 05", api.Instr{Op: 0x0c, A: 5}}, {"0d ff ff ff ff 0f", api.Instr{Op: 0x0d, A: 1<<32 - 1}}, {"0c 85 80 80 80 00", api.Instr{Op: 0x0c, A: 5}},
	{"0e 00 07", api.Instr{Op: 0x0e, A: 7}}, {"0e 03 05 04 80 01 02", api.Instr{Op: 0x0e, A: 2, Labels: []int{5, 4, 128}}}, {"0e 81 00 85 80 00 84 00", api.Instr{Op: 0x0e, A: 4, Labels: []int{5}}},
	{"10 09", api.Instr{Op: 0x10, A: 9}}, {"20 00", api.Instr{Op: 0x20}}, {"21 01", api.Instr{Op: 0x21, A: 1}}, {"22 02", api.Instr{Op: 0x22, A: 2}}, {"23 03", api.Instr{Op: 0x23, A: 3}}, {"24 84 80 00", api.Instr{Op: 0x24, A: 4}},
	{"11 05 00", api.Instr{Op: 0x11, A: 5}}, {"11 85 00 00", api.Instr{Op: 0x11, A: 5}},
	{"28 02 08", api.Instr{Op: 0x28, A: 2, B: 8}}, {"35 82 00 88 80 00", api.Instr{Op: 0x35, A: 2, B: 8}}, {"3e ff ff ff ff 0f ff ff ff ff 0f", api.Instr{Op: 0x3e, A: 1<<32 - 1, B: 1<<32 - 1}},
	{"41 7f", api.Instr{Op: 0x41, N: -1}}, {"41 80 80 80 80 78", api.Instr{Op: 0x41, N: math.MinInt32}}, {"41 ff ff ff ff 07", api.Instr{Op: 0x41, N: math.MaxInt32}}, {"41 ff ff ff ff 7f", api.Instr{Op: 0x41, N: -1}}, {"41 80 00", api.Instr{Op: 0x41}},
	{"42 40", api.Instr{Op: 0x42, N: -64}}, {"42 80 80 80 80 08", api.Instr{Op: 0x42, N: 1 << 31}}, {"42 80 80 80 80 80 80 80 80 80 7f", api.Instr{Op: 0x42, N: math.MinInt}}, {"42 ff ff ff ff ff ff ff ff ff 7f", api.Instr{Op: 0x42, N: -1}}, {"42 ff ff ff ff ff ff ff ff ff 00", api.Instr{Op: 0x42, N: math.MaxInt}},
}

func TestInstructions(t *testing.T) {
	for _, x := range behinds {
		s := bytesOf(x.bytes)
		checkModule(t, x.bytes, body(s, "\x0b"), api.Module{Funcs: []api.Func{{Body: []api.Instr{x.want}}}})
		checkModule(t, x.bytes, body("\x02\x40", s, "\x01", s, "\x0b\x0b"), api.Module{Funcs: []api.Func{{Body: []api.Instr{{Op: 0x02, Body: []api.Instr{x.want, {Op: 0x01}, x.want}}}}}})
		if l, behind, err := Expr("\x05"+s+"\x0b\x05", 1); err != api.OK || behind != len(s)+2 || !sameBody(l, []api.Instr{x.want}) {
			t.Errorf("Expr, %s: %v, %d, %v", x.bytes, l, behind, err)
		}
		for i := range s {
			checkError(t, x.bytes+" cut off", body(s[:i]), api.ErrByte)
		}
		checkError(t, x.bytes+" without an end", body(s), api.ErrByte)
	}
}

// Every byte in the place of an instruction, with all kinds of bytes behind it.
func TestEveryByteAsAnInstruction(t *testing.T) {
	for op := range 256 {
		want := map[int]api.Errno{wast.FormNone: api.ErrByte, wast.FormFloat: api.ErrFloat}[wast.Form(op)]
		if op == 0x0b {
			want = api.OK // it ends the body
		}
		if err := checkExpr(t, one(op)+"\x00\x00\x0b\x0b\x0b", 0); want != api.OK && err != want {
			t.Errorf("%x: %v, want %v", op, err, want)
		}
		if want != api.OK {
			checkError(t, "no instruction", body(one(op), "\x0b"), want)
			checkError(t, "no instruction in a block", body("\x02\x40", one(op), "\x0b\x0b"), want)
			if op != 0x05 {
				checkError(t, "no instruction in an if", body("\x04\x40", one(op), "\x0b\x0b"), want)
			}
			checkError(t, "no instruction in an else", body("\x04\x40\x05", one(op), "\x0b\x0b"), want)
		}
		for _, behind := range []string{"", "\x00", "\x01", "\x40", "\x7e", "\x7f", "\x7d", "\x7c", "\x7b", "\x00\x00", "\x80\x00", "\x00\x01", "\x01\x02\x03", "\x40\x05", "\x40\x05\x05", "\x40\x0b"} {
			for _, end := range []string{"", "\x0b", "\x0b\x0b"} {
				s := one(op) + behind + end
				checkExpr(t, s, 0)
				checkPlain(t, body(s))
				checkPlain(t, body("\x04\x40\x01", s))
			}
		}
	}
}

// An Init and an Offset are one instruction of three bytes, and the end.
func TestEveryByteAsAConstant(t *testing.T) {
	for what, x := range map[string]struct {
		section       int
		ahead, behind string
		want          func(x api.Instr) api.Module
	}{
		"a global": {6, "\x01\x7f\x00", "", func(x api.Instr) api.Module { return api.Module{Globals: []api.Global{{Type: 127, Init: x}}} }},
		"an elem":  {9, "\x01\x00", "\x00", func(x api.Instr) api.Module { return api.Module{Elems: []api.Elem{{Offset: x}}} }},
		"a data":   {11, "\x01\x00", "\x00", func(x api.Instr) api.Module { return api.Module{Datas: []api.Data{{Offset: x}}} }},
	} {
		for op := range 256 {
			for _, rest := range []string{"\x05\x0b", "\x0b", "\x0b\x0b", "\x05\x0b\x0b", "\x00\x00\x0b", "\x40\x0b\x0b", "\x00\x00\x00\x00\x0b"} {
				s := eight + section(x.section, x.ahead, one(op), rest, x.behind)
				switch {
				case wast.Form(op) == wast.FormFloat:
					checkError(t, what, s, api.ErrFloat)
				case op != 0x41 && op != 0x42 && op != 0x23:
					checkError(t, what, s, api.ErrByte)
				default:
					checkPlain(t, s)
				}
			}
			checkPlain(t, eight+section(x.section, x.ahead, one(op)))
			// Every byte in the place of the end.
			s := eight + section(x.section, x.ahead, "\x41\x05", one(op), x.behind)
			if op == 0x0b {
				checkModule(t, what, s, x.want(api.Instr{Op: 0x41, N: 5}))
			} else {
				checkError(t, what, s, api.ErrByte)
			}
		}
		checkModule(t, what, eight+section(x.section, x.ahead, "\x42\x7f\x0b", x.behind), x.want(api.Instr{Op: 0x42, N: -1}))
		checkModule(t, what, eight+section(x.section, x.ahead, "\x23\x7f\x0b", x.behind), x.want(api.Instr{Op: 0x23, A: 127}))
	}
}

// repeat is an entry so often.
func repeat(count int, digits string) string { return strings.Repeat(bytesOf(digits), count) }

// Every list may have MaxCount entries.
func TestLongLists(t *testing.T) {
	for what, of := range map[string]func(n int) string{
		"types":      func(n int) string { return eight + section(1, u(n), repeat(n, "60 00 00")) },
		"parameters": func(n int) string { return eight + section(1, "\x01\x60", u(n), repeat(n, "7e"), "\x00") },
		"results":    func(n int) string { return eight + section(1, "\x01\x60\x00", u(n), repeat(n, "7f")) },
		"imports":    func(n int) string { return eight + section(2, u(n), repeat(n, "01 61 01 62 00 05")) },
		"functions": func(n int) string {
			return eight + section(3, u(n), repeat(n, "07")) + section(10, u(n), repeat(n, "02 00 0b"))
		},
		"codes": func(n int) string {
			return eight + section(3, u(min(n, 4096)), repeat(min(n, 4096), "07")) + section(10, u(n), repeat(n, "02 00 0b"))
		},
		"tables":    func(n int) string { return eight + section(4, u(n), repeat(n, "70 00 01")) },
		"memories":  func(n int) string { return eight + section(5, u(n), repeat(n, "01 01 02")) },
		"globals":   func(n int) string { return eight + section(6, u(n), repeat(n, "7f 00 41 00 0b")) },
		"exports":   func(n int) string { return eight + section(7, u(n), repeat(n, "00 01 02")) },
		"elems":     func(n int) string { return eight + section(9, u(n), repeat(n, "00 41 00 0b 01 00")) },
		"an elem's": func(n int) string { return eight + section(9, "\x01\x00\x41\x00\x0b", u(n), repeat(n, "05")) },
		"datas":     func(n int) string { return eight + section(11, u(n), repeat(n, "00 41 00 0b 01 61")) },
		"labels":    func(n int) string { return body("\x0e", u(n), repeat(n, "05"), "\x01\x0b") },
		"runs":      func(n int) string { return function(u(n), repeat(n, "00 7f"), "\x0b") },
	} {
		if err := checkPlain(t, of(4096)); err != api.OK {
			t.Errorf("%s: %v", what, err)
		}
		checkError(t, what, of(4097), api.ErrMany)
		checkError(t, what, of(5000), api.ErrMany)
		checkPlain(t, of(1))
	}
	// A text is no list.
	checkModule(t, "a data of many bytes", eight+section(11, "\x01\x00\x41\x00\x0b", u(200000), repeat(200000, "ff")), api.Module{Datas: []api.Data{{Offset: zero, Bytes: strings.Repeat("\xff", 200000)}}})
}

func TestManyLocals(t *testing.T) {
	for _, runs := range [][]int{{256}, {255, 1}, {1, 255}, {128, 0, 128}, {0, 256, 0}, {100, 100, 56, 0, 0}, many(1, 256), slices.Repeat([]int{0, 2}, 128)} {
		code, want := u(len(runs)), []int(nil)
		for i, n := range runs {
			code += u(n) + one(126+i%2)
			want = append(want, many(126+i%2, n)...)
		}
		checkModule(t, "locals", function(code, "\x0b"), api.Module{Funcs: []api.Func{{Locals: want}}})
		for _, more := range []int{1, 2, 256, 1<<32 - 257, 1<<32 - 256, 1<<32 - 1} {
			for i, n := range runs {
				if more > 1<<32-1-n {
					continue
				}
				longer := slices.Clone(runs)
				longer[i] += more
				code := u(len(longer))
				for i, n := range longer {
					code += u(n) + one(126+i%2)
				}
				checkError(t, "more locals", function(code, "\x0b"), api.ErrMany)
			}
			code := u(len(runs)+1) + strings.TrimPrefix(code, u(len(runs))) + u(more) + "\x7f"
			checkError(t, "a run more", function(code, "\x0b"), api.ErrMany)
			checkPlain(t, function(code, "\x0b"))
		}
	}
	// The run that passes it tells it, at its count: its type is not looked at, and no run behind it.
	checkError(t, "no type of the run", function("\x02\xff\x01\x7f\x02"), api.ErrMany)
	checkError(t, "a floating run behind", function("\x03\xff\x01\x7f\x02\x7f\x01\x7d\x0b"), api.ErrMany)
	checkError(t, "a floating run ahead", function("\x03\xff\x01\x7d\x02\x7f\x01\x7d\x0b"), api.ErrFloat)
	// Each function has as many.
	code := u(5) + "\x01\x80\x02\x7f\x0b"
	checkModule(t, "two functions", eight+section(3, "\x02\x00\x00")+section(10, "\x02", code, code), api.Module{Funcs: many(api.Func{Locals: many(127, 256)}, 2)})
}

func TestManyInstructions(t *testing.T) {
	code := func(body string) string { return u(len(body)+1) + "\x00" + body }
	nops := func(n int) string { return strings.Repeat("\x01", n) }
	for _, bodies := range []func(more int) []string{
		func(more int) []string { return []string{nops(65536+more) + "\x0b"} },
		func(more int) []string { return []string{nops(65535) + "\x0b", nops(1+more) + "\x0b"} },
		func(more int) []string {
			return []string{"\x0b", nops(40000) + "\x0b", nops(25536+more) + "\x0b", "\x0b"}
		},
		func(more int) []string { return []string{"\x02\x40" + nops(65534+more) + "\x0b\x01\x0b"} },
		func(more int) []string { return []string{nops(65533+more) + "\x04\x40\x01\x05\x01\x0b\x0b"} },
		func(more int) []string { return []string{nops(65535+more) + "\x41\x05\x0b"} },
		func(more int) []string {
			return []string{strings.Repeat("\x02\x40\x01\x0b", 32768) + nops(more) + "\x0b"}
		},
	} {
		for more := range 2 {
			list, codes := bodies(more), ""
			for _, b := range list {
				codes += code(b)
			}
			// Constants outside of bodies are not counted.
			s := eight + section(3, u(len(list)), strings.Repeat("\x00", len(list))) + section(6, "\x02", repeat(2, "7f 00 41 00 0b")) + section(9, "\x01\x00\x41\x00\x0b\x00") + section(10, u(len(list)), codes) + section(11, "\x01\x00\x41\x00\x0b\x00")
			want := map[bool]api.Errno{false: api.OK, true: api.ErrMany}[more > 0]
			if err := checkPlain(t, s); err != want {
				t.Errorf("%d instructions: %v", 65536+more, err)
			}
			if len(list) == 1 {
				if err := checkExpr(t, list[0], 0); err != want {
					t.Errorf("Expr, %d instructions: %v", 65536+more, err)
				}
			}
		}
	}
}

func TestDepths(t *testing.T) {
	for _, open := range []string{"\x02\x40", "\x03\x7f", "\x04\x7e", "\x04\x40\x05", "\x04\x40\x01\x05\x01"} {
		for _, x := range []struct {
			depth  int
			inside string
			err    api.Errno
		}{
			{1, "\x01", api.OK}, {64, "", api.OK}, {64, "\x01", api.OK}, {64, "\x41\x05", api.OK}, {65, "", api.OK}, {65, "\x01", api.ErrDeep}, {65, "\x02\x40\x0b", api.ErrDeep}, {66, "", api.ErrDeep}, {100, "", api.ErrDeep}, {30000, "", api.ErrDeep},
		} {
			s := strings.Repeat(open, x.depth) + x.inside + strings.Repeat("\x0b", x.depth+1)
			if open == "\x04\x40\x01\x05\x01" && x.depth == 65 {
				x.err = api.ErrDeep // they have nops in them
			}
			if err := checkExpr(t, s, 0); err != x.err {
				t.Errorf("Expr, %d of %x: %v, want %v", x.depth, open, err, x.err)
			}
			if err := checkPlain(t, body(s)); err != x.err {
				t.Errorf("%d of %x: %v, want %v", x.depth, open, err, x.err)
			}
			// A depth is left again at an end.
			checkPlain(t, body("\x02\x40\x0b\x04\x40\x05\x0b", s))
		}
	}
}

func TestTooLong(t *testing.T) {
	for _, s := range []string{strings.Repeat("\x00", 1<<18+1), eight + strings.Repeat("\x00", 1<<18-7), strings.Repeat("\xff", 1<<19), eight + section(0, "\x00", strings.Repeat("a", 1<<18))} {
		checkError(t, "too long", s, api.ErrLong)
		for _, at := range []int{0, -1, 1, len(s), len(s) + 1, math.MinInt, math.MaxInt} {
			if l, behind, err := Expr(s, at); err != api.ErrLong || behind != 0 || l != nil {
				t.Errorf("Expr at %d: %d, %v", at, behind, err)
			}
		}
	}
	checkError(t, "not too long", strings.Repeat("\x00", 1<<18), api.ErrByte)
	if l, behind, err := Expr(strings.Repeat("\x0b", 1<<18), 1<<18-1); err != api.OK || behind != 1<<18 || l != nil {
		t.Error("Expr in as many bytes as may be", behind, err)
	}
}

func TestExprAtEveryPlace(t *testing.T) {
	s, _ := fullBytes(t)
	texts := []string{"", "\x0b", "\x01", "\x02\x40\x0b\x0b\x01", s, strings.Repeat("\x0b", 20), strings.Repeat("\x41\x41\x0b", 9)}
	for _, x := range behinds {
		texts = append(texts, bytesOf(x.bytes)+"\x0b")
	}
	seen := map[api.Errno]int{}
	for _, s := range texts {
		for at := -3; at <= len(s)+3; at++ {
			err := checkExpr(t, s, at)
			seen[err]++
			if (err == api.ErrArg) != (at < 0 || at > len(s)) {
				t.Errorf("%x at %d: %v", s, at, err)
			}
		}
		for _, at := range []int{math.MinInt, math.MinInt32, math.MaxInt32, math.MaxInt} {
			if l, behind, err := Expr(s, at); err != api.ErrArg || behind != 0 || l != nil {
				t.Errorf("%x at %d: %v", s, at, err)
			}
		}
		if l, behind, err := Expr(s, len(s)); err != api.ErrByte || behind != 0 || l != nil {
			t.Errorf("%x at its end: %v", s, err)
		}
	}
	if seen[api.OK] < 50 || seen[api.ErrByte] < 50 || seen[api.ErrFloat] < 2 {
		t.Error(seen)
	}
}

// What Body writes is read back, wherever it stands, and whatever is behind it.
func TestExprOfBodies(t *testing.T) {
	c := chance(424242)
	for range 2000 {
		list := c.body(4)
		s, _ := encode.Body(list)
		for _, ahead := range []string{"", "\xff", "\x0b\x0b"} {
			for _, behind := range []string{"", "\x01", "\x05\xff"} {
				l, place, err := Expr(ahead+s+behind, len(ahead))
				if err != api.OK || place != len(ahead+s) || !sameBody(l, list) {
					t.Errorf("%s: %v, %d, %v", short(s), l, place, err)
				}
			}
		}
		s = loose{&c}.expr(list...)
		if l, place, err := Expr(s, 0); err != api.OK || place != len(s) || !sameBody(l, list) {
			t.Errorf("%s: %v, %d, %v", short(s), l, place, err)
		}
		for i := range s {
			if l, place, err := Expr(s[:i], 0); err != api.ErrByte || place != 0 || l != nil {
				t.Errorf("%s cut off at %d: %v", short(s), i, err)
			}
		}
	}
}

// Modules of all kinds, in the one way that Encode writes, and in the ways that may be read beside it.
func TestModulesInAnyWay(t *testing.T) {
	c := chance(88172645463325252)
	for range 3000 {
		m := c.module()
		s, err := encode.Encode(m)
		if err != api.OK {
			t.Fatal(err)
		}
		checkModule(t, "as Encode writes it", s, m)
		for range 3 {
			checkModule(t, "written in another way", eight+strings.Join(loose{&c}.pieces(m), ""), m)
		}
		// Written again as it is, where it was written so.
		got, _ := Decode(s)
		if again, _ := encode.Encode(got); again != s {
			t.Errorf("%s is written again as %s", short(s), short(again))
		}
	}
}

// checkCuts cuts off bytes that are a module at every place: between sections there may be a module, elsewhere there is none.
func checkCuts(t *testing.T, s string, pieces []string) {
	t.Helper()
	boundary := map[int]bool{len(eight): true}
	at := len(eight)
	for _, p := range pieces {
		at += len(p)
		boundary[at] = true
	}
	for i := range s {
		if boundary[i] {
			checkPlain(t, s[:i])
		} else {
			checkError(t, "cut off", s[:i], api.ErrByte)
		}
	}
}

func TestCutOff(t *testing.T) {
	s, places := fullBytes(t)
	var pieces []string
	for i, at := range places[:11] {
		pieces = append(pieces, s[at:places[i+1]])
	}
	checkCuts(t, s, pieces)
	for i, at := range places {
		// From section 3 up to 10 there are functions without their code.
		if _, err := Decode(s[:at]); (err == api.OK) != (i <= 2 || i >= 10) {
			t.Errorf("%d sections: %v", i, err)
		}
	}
	c := chance(362436069)
	for range 150 {
		pieces := loose{&c}.pieces(c.module())
		checkCuts(t, eight+strings.Join(pieces, ""), pieces)
	}
}

// changed is bytes of a module with one of them, behind the eight, another one.
func (c *chance) changed() string {
	s := []byte(eight + strings.Join(loose{c}.pieces(c.module()), ""))
	if len(s) > len(eight) {
		other := []int{0, 1, 5, 0x0b, 0x20, 0x40, 0x41, 0x43, 0x60, 0x7c, 0x7d, 0x7f, 0x80, 0x92, 0xff, c.below(256)}
		s[len(eight)+c.below(len(s)-len(eight))] = byte(other[c.below(len(other))])
	}
	return string(s)
}

func TestModulesWithAByteChanged(t *testing.T) {
	c := chance(123456789)
	seen := map[api.Errno]int{}
	for range 20000 {
		seen[checkPlain(t, c.changed())]++
	}
	for _, err := range []api.Errno{api.OK, api.ErrByte, api.ErrFloat, api.ErrMany} {
		if seen[err] < 20 {
			t.Errorf("%v is answered %d times alone", err, seen[err])
		}
	}
}

// An error that is not ErrByte stands at a byte: what is cut off ahead of it does not have it, and it stays, whatever follows.
func TestWhatFollowsAnErrorChangesNothing(t *testing.T) {
	c := chance(521288629)
	wrong := []string{function("\x01\x81\x02\x7f\x0b"), body(strings.Repeat("\x02\x40", 66)), body("\x02\x40\x43\x0b\x0b"), eight + "\x01\x7f\x81\x20", eight + section(6, "\x01\x7d\x00\x41\x00\x0b")}
	for range 6000 {
		wrong = append(wrong, c.changed())
	}
	seen := map[api.Errno]int{}
	for _, s := range wrong {
		_, err := Decode(s)
		if err == api.OK || err == api.ErrByte {
			continue
		}
		seen[err]++
		from := len(s)
		for from > 0 {
			if _, e := Decode(s[:from-1]); e != err {
				break
			}
			from--
		}
		for i := range from {
			if _, e := Decode(s[:i]); e != api.OK && e != api.ErrByte {
				t.Errorf("%s, cut off at %d: %v", short(s), i, e)
			}
		}
		for _, behind := range []string{"\x00", "\x0b", "\x43", "\x7d", "\xff\xff\xff\xff\xff", "\x81\x20", eight} {
			checkError(t, "with something else behind", s[:from]+behind, err)
		}
	}
	if seen[api.ErrFloat] < 20 || seen[api.ErrMany] < 20 || seen[api.ErrDeep] < 1 {
		t.Error(seen)
	}
}

// pieceOf is a stretch of memory.
type pieceOf struct{ from, to uintptr }

// memoryOf is the memory of every list in v, its spare room too, and of every text.
func memoryOf(v reflect.Value) []pieceOf {
	var out []pieceOf
	switch v.Kind() {
	case reflect.Struct:
		for i := range v.NumField() {
			out = append(out, memoryOf(v.Field(i))...)
		}
	case reflect.Slice:
		if size := uintptr(v.Cap()) * v.Type().Elem().Size(); size > 0 {
			out = append(out, pieceOf{v.Pointer(), v.Pointer() + size})
		}
		for i := range v.Len() {
			out = append(out, memoryOf(v.Index(i))...)
		}
	case reflect.String:
		if s := v.String(); s != "" {
			from := uintptr(unsafe.Pointer(unsafe.StringData(s)))
			out = append(out, pieceOf{from, from + uintptr(len(s))})
		}
	}
	return out
}

// No two lists or texts of answers share memory, and none has any of what was handed in.
func TestAnswersAreNewMemory(t *testing.T) {
	s, _ := fullBytes(t)
	m, _ := Decode(s)
	again, _ := Decode(s)
	l, _, _ := Expr(s[strings.Index(s, "\x20\x01\x41"):], 0)
	more, _, _ := Expr(s, strings.Index(s, "\x20\x01\x41"))
	if len(l) != 9 || !sameBody(l, more) {
		t.Fatal("not the body", l)
	}
	pieces := memoryOf(reflect.ValueOf(s))
	for _, x := range []any{m, again, l, more} {
		pieces = append(pieces, memoryOf(reflect.ValueOf(x))...)
	}
	if len(pieces) < 75 {
		t.Error("too few pieces:", len(pieces))
	}
	slices.SortFunc(pieces, func(a, b pieceOf) int { return int(a.from) - int(b.from) })
	for i := range pieces[1:] {
		if pieces[i].to > pieces[i+1].from {
			t.Error("memory is shared")
		}
	}
}

func TestAnswersAreAlikeEachTime(t *testing.T) {
	s, _ := fullBytes(t)
	for range 3 {
		checkModule(t, "once more", s, full())
		checkError(t, "once more", s[:100], api.ErrByte)
		checkError(t, "once more", body("\x43"), api.ErrFloat)
	}
}

func FuzzDecode(f *testing.F) {
	for _, x := range alone {
		f.Add(eight + bytesOf(x.bytes))
	}
	for _, x := range wrongs {
		f.Add(eight + bytesOf(x.bytes))
	}
	for _, x := range wrongCodes {
		f.Add(function(bytesOf(x.bytes)))
	}
	s, _ := encode.Encode(full())
	f.Add(s)
	f.Fuzz(func(t *testing.T, s string) {
		checkPlain(t, s)
		checkPlain(t, eight+s)
	})
}

func FuzzExpr(f *testing.F) {
	for _, x := range behinds {
		f.Add(bytesOf(x.bytes)+"\x0b", 0)
	}
	f.Fuzz(func(t *testing.T, s string, at int) {
		checkExpr(t, s, at)
		checkExpr(t, s, 0)
	})
}

func FuzzModules(f *testing.F) {
	f.Add(uint64(1), uint64(2))
	f.Fuzz(func(t *testing.T, seed, way uint64) {
		c, w := chance(seed|1), chance(way|1)
		m := c.module()
		checkModule(t, "in some way", eight+strings.Join(loose{&w}.pieces(m), ""), m)
	})
}
