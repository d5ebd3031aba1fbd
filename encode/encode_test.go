package encode

import (
	"encoding/hex"
	"math"
	"reflect"
	"runtime"
	"slices"
	"strconv"
	"strings"
	"testing"

	"athanor/api"
	"athanor/leb"
	"athanor/wast"
)

// bytesOf is the bytes that are written as hexadecimal digits, with spaces between.
func bytesOf(digits string) string {
	b, err := hex.DecodeString(strings.ReplaceAll(digits, " ", ""))
	if err != nil {
		panic(digits)
	}
	return string(b)
}

// many is a list of count times x.
func many[T any](x T, count int) []T { return slices.Repeat([]T{x}, count) }

var (
	nop  = api.Instr{Op: 0x01}
	zero = api.Instr{Op: 0x41} // an I32's constant
)

// body is a module of one function.
func body(list ...api.Instr) api.Module {
	return api.Module{Funcs: []api.Func{{Body: list}}}
}

// within is x in depth blocks.
func within(x api.Instr, depth int) api.Instr {
	for range depth {
		x = api.Instr{Op: 0x02, Body: []api.Instr{x}}
	}
	return x
}

// short is the first bytes of a text, for a report.
func short(s string) string {
	return hex.EncodeToString([]byte(s[:min(len(s), 200)]))
}

// checkModule holds the bytes of a module against those put together plainly, and reads them back.
func checkModule(t *testing.T, m api.Module) string {
	t.Helper()
	s, err := Encode(m)
	want := plainModule(m)
	if err != api.OK || s != want {
		t.Errorf("%d bytes %s, %v, want %d bytes %s", len(s), short(s), err, len(want), short(want))
		return ""
	}
	if !wast.Same(readModule(s), m) {
		t.Errorf("another module is read back from %s", short(s))
	}
	return s
}

// checkBody does the same with a body.
func checkBody(t *testing.T, list ...api.Instr) string {
	t.Helper()
	s, err := Body(list)
	if want := plainExpr(list...); err != api.OK || s != want {
		t.Errorf("%s, %v, want %s", short(s), err, short(want))
		return ""
	}
	checkModule(t, body(list...))
	return s
}

func TestExamples(t *testing.T) {
	if s, err := Encode(api.Module{}); s != bytesOf("00 61 73 6d 01 00 00 00") || err != api.OK {
		t.Error(short(s), err)
	}
	if s, err := Encode(api.Module{Types: []api.FuncType{{}}}); s != bytesOf("00 61 73 6d 01 00 00 00 01 04 01 60 00 00") || err != api.OK {
		t.Error(short(s), err)
	}
}

// alone is modules with one section each, and what stands behind the first eight bytes.
var alone = []struct {
	what  string
	m     api.Module
	bytes string
}{
	{"a type", api.Module{Types: []api.FuncType{{Params: []int{127}}}}, "01 05 01 60 01 7f 00"},
	{"types", api.Module{Types: []api.FuncType{{}, {Results: []int{126, 127}}, {Params: []int{126, 127, 126}, Results: []int{127}}}}, "01 10 03 60 00 00 60 00 02 7e 7f 60 03 7e 7f 7e 01 7f"},
	{"an import", api.Module{Imports: []api.Import{{Module: "env", Name: "read", Type: 5}}}, "02 0c 01 03 65 6e 76 04 72 65 61 64 00 05"},
	{"imports without names", api.Module{Imports: []api.Import{{}, {Name: "\u20ac", Type: 128}, {Module: "\x00", Type: 1<<32 - 1}}}, "02 16 03 00 00 00 00 00 03 e2 82 ac 00 80 01 01 00 00 00 ff ff ff ff 0f"},
	{"a table", api.Module{Tables: []api.Limits{{}}}, "04 04 01 70 00 00"},
	{"tables", api.Module{Tables: []api.Limits{{Min: 1, Max: 2, Has: true}, {Min: 300}}}, "04 09 02 70 01 01 02 70 00 ac 02"},
	{"a memory", api.Module{Mems: []api.Limits{{Min: 7}}}, "05 03 01 00 07"},
	{"memories", api.Module{Mems: []api.Limits{{Min: 128, Max: 127, Has: true}, {Has: true}, {Min: 1<<32 - 1, Max: 1<<32 - 1, Has: true}}}, "05 13 03 01 80 01 7f 01 00 00 01 ff ff ff ff 0f ff ff ff ff 0f"},
	{"globals", api.Module{Globals: []api.Global{{Type: 127, Init: zero}, {Type: 126, Mut: true, Init: api.Instr{Op: 0x42, N: -128}}, {Type: 126, Init: api.Instr{Op: 0x23, A: 200}}}}, "06 12 03 7f 00 41 00 0b 7e 01 42 80 7f 0b 7e 00 23 c8 01 0b"},
	{"exports", api.Module{Exports: []api.Export{{}, {Name: "t", Kind: 1, Index: 2}, {Name: "mem", Kind: 2}, {Name: "g", Kind: 3, Index: 16384}}}, "07 14 04 00 00 00 01 74 01 02 03 6d 65 6d 02 00 01 67 03 80 80 01"},
	{"a start", api.Module{Start: []int{0}}, "08 01 00"},
	{"a greater start", api.Module{Start: []int{1<<32 - 1}}, "08 05 ff ff ff ff 0f"},
	{"elems", api.Module{Elems: []api.Elem{{Offset: zero}, {Offset: api.Instr{Op: 0x23, A: 1}, Funcs: []int{0, 127, 128}}}}, "09 0f 02 00 41 00 0b 00 00 23 01 0b 03 00 7f 80 01"},
	{"datas", api.Module{Datas: []api.Data{{Offset: zero}, {Offset: api.Instr{Op: 0x41, N: 64}, Bytes: "\x00\xff\x0b"}, {Offset: api.Instr{Op: 0x42, N: -1}, Bytes: "a"}}}, "0b 15 03 00 41 00 0b 00 00 41 c0 00 0b 03 00 ff 0b 00 42 7f 0b 01 61"},
	{"a function", api.Module{Funcs: []api.Func{{}}}, "03 02 01 00 0a 04 01 02 00 0b"},
	{"functions", api.Module{Funcs: []api.Func{{Type: 300, Body: []api.Instr{nop}}, {Locals: []int{126}}}}, "03 04 02 ac 02 00 0a 0a 02 03 00 01 0b 04 01 01 7e 0b"},
}

func TestEachSectionAlone(t *testing.T) {
	for _, x := range alone {
		if s, err := Encode(x.m); s != head+bytesOf(x.bytes) || err != api.OK {
			t.Errorf("%s: %s, %v, want %s", x.what, short(s), err, x.bytes)
		}
		checkModule(t, x.m)
	}
}

// together is m with the lists of o that it has none of.
func together(m, o api.Module) api.Module {
	to, from := reflect.ValueOf(&m).Elem(), reflect.ValueOf(o)
	for i := range to.NumField() {
		if to.Field(i).Len() == 0 {
			to.Field(i).Set(from.Field(i))
		}
	}
	return m
}

// Whichever lists a module has: their sections follow one another by their bytes, and the others are left out.
func TestEveryChoiceOfSections(t *testing.T) {
	var parts []api.Module
	for _, what := range []string{"types", "imports without names", "functions", "tables", "memories", "globals", "exports", "a start", "elems", "datas"} {
		for _, x := range alone {
			if x.what == what {
				parts = append(parts, x.m)
			}
		}
	}
	if len(parts) != reflect.TypeFor[api.Module]().NumField() {
		t.Fatal("not every list has a part")
	}
	for choice := range 1 << len(parts) {
		var m api.Module
		written := map[byte]string{}
		for i, part := range parts {
			if choice>>i&1 == 0 {
				continue
			}
			m = together(m, part)
			s, _ := Encode(part)
			for s = s[len(head):]; s != ""; {
				size, behind, _ := leb.U(s, 1, 32)
				written[s[0]] = s[:behind+int(size)]
				s = s[behind+int(size):]
			}
		}
		want := head
		for id := range byte(12) {
			want += written[id]
		}
		if s, err := Encode(m); s != want || err != api.OK {
			t.Errorf("choice %b: %s, %v", choice, short(s), err)
		}
	}
}

// full is a module with something in every field, and instructions of every form.
func full() api.Module {
	return api.Module{
		Types:   []api.FuncType{{Params: []int{127, 126}, Results: []int{127}}, {Params: []int{126}, Results: []int{126, 127}}},
		Imports: []api.Import{{Module: "env", Name: "read", Type: 1}, {Module: "\u20ac", Name: "write", Type: 7}},
		Funcs: []api.Func{
			{Type: 1, Locals: []int{127, 127, 126, 127}, Body: []api.Instr{
				{Op: 0x20, A: 1}, {Op: 0x41, N: -5}, {Op: 0x6a}, {Op: 0x42, N: math.MinInt}, {Op: 0x3f}, {Op: 0x40}, {Op: 0x36, A: 2, B: 1 << 20},
				{Op: 0x02, A: 127, Body: []api.Instr{{Op: 0x0c, A: 3}, {Op: 0x0e, A: 2, Labels: []int{0, 1}}, {Op: 0x01}}},
				{Op: 0x04, A: 126, Body: []api.Instr{{Op: 0x28, A: 2, B: 8}, {Op: 0x0d, A: 1}}, Else: []api.Instr{{Op: 0x03, Body: []api.Instr{{Op: 0x10, A: 9}}}, {Op: 0x11, A: 1}}},
			}},
			{Type: 2, Locals: []int{126}, Body: []api.Instr{{Op: 0x23, A: 4}, {Op: 0x0f}}},
		},
		Tables:  []api.Limits{{Min: 1, Max: 2, Has: true}, {Min: 3}},
		Mems:    []api.Limits{{Min: 4, Max: 5, Has: true}, {Min: 6}},
		Globals: []api.Global{{Type: 127, Mut: true, Init: api.Instr{Op: 0x41, N: 1}}, {Type: 126, Init: api.Instr{Op: 0x23, A: 1}}},
		Exports: []api.Export{{Name: "main", Kind: 3, Index: 1}, {Name: "m", Kind: 2, Index: 2}},
		Start:   []int{1},
		Elems:   []api.Elem{{Offset: api.Instr{Op: 0x41, N: 2}, Funcs: []int{1, 2}}, {Offset: api.Instr{Op: 0x23, A: 3}, Funcs: []int{4}}},
		Datas:   []api.Data{{Offset: api.Instr{Op: 0x42, N: 2}, Bytes: "\xff\x00"}, {Offset: api.Instr{Op: 0x23, A: 3}, Bytes: "b"}},
	}
}

func TestAllSectionsTogether(t *testing.T) {
	want := bytesOf("00 61 73 6d 01 00 00 00" +
		"01 0d 02 60 02 7f 7e 01 7f 60 01 7e 02 7e 7f" +
		"02 18 02 03 65 6e 76 04 72 65 61 64 00 01 03 e2 82 ac 05 77 72 69 74 65 00 07" +
		"03 03 02 01 02" +
		"04 08 02 70 01 01 02 70 00 03" +
		"05 06 02 01 04 05 00 06" +
		"06 0b 02 7f 01 41 01 0b 7e 00 23 01 0b" +
		"07 0c 02 04 6d 61 69 6e 03 01 01 6d 02 02" +
		"08 01 01" +
		"09 0e 02 00 41 02 0b 02 01 02 00 23 03 0b 01 04" +
		"0a 47 02" +
		"3d 03 02 7f 01 7e 01 7f 20 01 41 7b 6a 42 80 80 80 80 80 80 80 80 80 7f 3f 00 40 00 36 02 80 80 40" +
		"02 7f 0c 03 0e 02 00 01 02 01 0b" +
		"04 7e 28 02 08 0d 01 05 03 40 10 09 0b 11 01 00 0b 0b" +
		"07 01 01 7e 23 04 0f 0b" +
		"0b 0e 02 00 42 02 0b 02 ff 00 00 23 03 0b 01 62")
	if s, err := Encode(full()); s != want || err != api.OK {
		t.Errorf("%v\n%x, want\n%x", err, s, want)
	}
	checkModule(t, full())
}

func TestInstructions(t *testing.T) {
	for _, x := range []struct {
		list  []api.Instr
		bytes string
	}{
		{nil, ""},
		{[]api.Instr{{Op: 0x00}, {Op: 0x01}, {Op: 0x0f}, {Op: 0x1a}, {Op: 0x1b}}, "00 01 0f 1a 1b"},
		{[]api.Instr{{Op: 0x3f}}, "3f 00"},
		{[]api.Instr{{Op: 0x40}}, "40 00"},
		{[]api.Instr{{Op: 0x45}, {Op: 0x5a}, {Op: 0x67}, {Op: 0x8a}, {Op: 0xa7}, {Op: 0xac}, {Op: 0xad}}, "45 5a 67 8a a7 ac ad"},
		{[]api.Instr{{Op: 0x02}}, "02 40 0b"},
		{[]api.Instr{{Op: 0x02, A: 127}}, "02 7f 0b"},
		{[]api.Instr{{Op: 0x02, A: 126}}, "02 7e 0b"},
		{[]api.Instr{{Op: 0x03}, {Op: 0x03, A: 127}, {Op: 0x03, A: 126}}, "03 40 0b 03 7f 0b 03 7e 0b"},
		{[]api.Instr{{Op: 0x03, Body: []api.Instr{nop, nop}}, nop}, "03 40 01 01 0b 01"},
		{[]api.Instr{{Op: 0x04}, {Op: 0x04, A: 127}, {Op: 0x04, A: 126}}, "04 40 0b 04 7f 0b 04 7e 0b"},
		{[]api.Instr{{Op: 0x04, Body: []api.Instr{nop}}}, "04 40 01 0b"},
		{[]api.Instr{{Op: 0x04, Else: []api.Instr{nop}}}, "04 40 05 01 0b"},
		{[]api.Instr{{Op: 0x04, A: 127, Body: []api.Instr{nop}, Else: []api.Instr{{Op: 0x00}, nop}}}, "04 7f 01 05 00 01 0b"},
		{[]api.Instr{{Op: 0x04, Body: []api.Instr{{Op: 0x04, Else: []api.Instr{nop}}}}}, "04 40 04 40 05 01 0b 0b"},
		{[]api.Instr{{Op: 0x04, Body: []api.Instr{{Op: 0x04}}, Else: []api.Instr{nop}}}, "04 40 04 40 0b 05 01 0b"},
		{[]api.Instr{{Op: 0x0c}, {Op: 0x0d, A: 1}}, "0c 00 0d 01"},
		{[]api.Instr{{Op: 0x0e}}, "0e 00 00"},
		{[]api.Instr{{Op: 0x0e, A: 5}}, "0e 00 05"},
		{[]api.Instr{{Op: 0x0e, A: 128, Labels: []int{3, 0, 1<<32 - 1}}}, "0e 03 03 00 ff ff ff ff 0f 80 01"},
		{[]api.Instr{{Op: 0x10, A: 6}, {Op: 0x20, A: 1}, {Op: 0x21, A: 2}, {Op: 0x22, A: 3}, {Op: 0x23, A: 4}, {Op: 0x24, A: 5}}, "10 06 20 01 21 02 22 03 23 04 24 05"},
		{[]api.Instr{{Op: 0x11}, {Op: 0x11, A: 300}}, "11 00 00 11 ac 02 00"},
		{[]api.Instr{{Op: 0x28}, {Op: 0x29, A: 3, B: 8}, {Op: 0x35, A: 127, B: 128}}, "28 00 00 29 03 08 35 7f 80 01"},
		{[]api.Instr{{Op: 0x36, A: 2}, {Op: 0x3e, B: 1<<32 - 1}, {Op: 0x3a, A: 1<<32 - 1}}, "36 02 00 3e 00 ff ff ff ff 0f 3a ff ff ff ff 0f 00"},
		{[]api.Instr{{Op: 0x41}, {Op: 0x41, N: 1}, {Op: 0x41, N: -1}}, "41 00 41 01 41 7f"},
		{[]api.Instr{{Op: 0x41, N: math.MaxInt32}}, "41 ff ff ff ff 07"},
		{[]api.Instr{{Op: 0x41, N: math.MinInt32}}, "41 80 80 80 80 78"},
		{[]api.Instr{{Op: 0x42, N: math.MaxInt32 + 1}}, "42 80 80 80 80 08"},
		{[]api.Instr{{Op: 0x42, N: math.MinInt32 - 1}}, "42 ff ff ff ff 77"},
		{[]api.Instr{{Op: 0x42, N: math.MaxInt64}}, "42 ff ff ff ff ff ff ff ff ff 00"},
		{[]api.Instr{{Op: 0x42, N: math.MinInt64}}, "42 80 80 80 80 80 80 80 80 80 7f"},
	} {
		if s := checkBody(t, x.list...); s != bytesOf(x.bytes+"0b") {
			t.Errorf("%v: %s, want %s", x.list, short(s), x.bytes)
		}
	}
}

// parts is an instruction of every byte, with something in each field that its form has.
func parts() []api.Instr {
	var out []api.Instr
	for op := range 256 {
		x := api.Instr{Op: op}
		switch wast.Form(op) {
		case wast.FormBlock:
			x.A, x.Body = api.I64, []api.Instr{nop}
		case wast.FormIf:
			x.A, x.Body, x.Else = api.I32, []api.Instr{zero}, []api.Instr{nop}
		case wast.FormTable:
			x.A, x.Labels = 130, []int{1, 140, 0}
		case wast.FormLabel, wast.FormIndex, wast.FormIndirect:
			x.A = 150
		case wast.FormMemory:
			x.A, x.B = 160, 170
		case wast.FormConst:
			x.N = -180
		case wast.FormNone, wast.FormFloat:
			continue
		}
		out = append(out, x)
	}
	return out
}

func TestEveryByte(t *testing.T) {
	list := parts()
	if len(list) != 7+22+36+3+2+1+2+1+6+1+19+2 {
		t.Error("instructions:", len(list))
	}
	for _, x := range list {
		checkBody(t, x)
		checkBody(t, nop, x, x)
		checkBody(t, within(x, 63))
	}
	checkBody(t, list...)
	checkBody(t, api.Instr{Op: 0x04, Body: list, Else: list})
}

// sevens is numbers at the edges of their groups, up to 32 bits.
func sevens() []int {
	out := []int{0, 1, 2, 63, 64, 65}
	for bits := 7; bits <= 28; bits += 7 {
		out = append(out, 1<<bits-2, 1<<bits-1, 1<<bits, 1<<bits+1, 3<<(bits-1))
	}
	return append(out, 1<<31-1, 1<<31, 1<<32-2, 1<<32-1)
}

func TestNumbersAtTheEdgesOfTheirGroups(t *testing.T) {
	for _, n := range sevens() {
		u := leb.PutU(uint64(n))
		for _, x := range []struct {
			m     api.Module
			bytes string
		}{
			{api.Module{Imports: []api.Import{{Type: n}}}, "\x01\x00\x00\x00" + u},
			{api.Module{Tables: []api.Limits{{Min: n}}}, "\x01\x70\x00" + u},
			{api.Module{Tables: []api.Limits{{Max: n, Has: true}}}, "\x01\x70\x01\x00" + u},
			{api.Module{Mems: []api.Limits{{Min: n}}}, "\x01\x00" + u},
			{api.Module{Mems: []api.Limits{{Min: n, Max: n, Has: true}}}, "\x01\x01" + u + u},
			{api.Module{Globals: []api.Global{{Type: 127, Init: api.Instr{Op: 0x23, A: n}}}}, "\x01\x7f\x00\x23" + u + "\x0b"},
			{api.Module{Exports: []api.Export{{Index: n}}}, "\x01\x00\x00" + u},
			{api.Module{Start: []int{n}}, u},
			{api.Module{Elems: []api.Elem{{Offset: zero, Funcs: []int{n, n}}}}, "\x01\x00\x41\x00\x0b\x02" + u + u},
			{api.Module{Elems: []api.Elem{{Offset: api.Instr{Op: 0x23, A: n}}}}, "\x01\x00\x23" + u + "\x0b\x00"},
			{api.Module{Datas: []api.Data{{Offset: api.Instr{Op: 0x23, A: n}}}}, "\x01\x00\x23" + u + "\x0b\x00"},
		} {
			if s := checkModule(t, x.m); len(s) < 10 || s[10:] != x.bytes {
				t.Errorf("%v: %s", x.m, short(s))
			}
		}
		checkModule(t, api.Module{Funcs: []api.Func{{Type: n}}})
		for _, op := range []int{0x0c, 0x0d, 0x0e, 0x10, 0x11, 0x20, 0x21, 0x22, 0x23, 0x24, 0x28, 0x3e} {
			checkBody(t, api.Instr{Op: op, A: n})
		}
		checkBody(t, api.Instr{Op: 0x28, B: n})
		checkBody(t, api.Instr{Op: 0x0e, A: n, Labels: []int{n, 0, n}})
	}
}

func TestConstantsAtTheEdgesOfTheirGroups(t *testing.T) {
	for bits := range 64 {
		for _, n := range []int{1 << bits, 1<<bits - 1, 1<<bits + 1, -1 << bits, -1<<bits - 1, -1<<bits + 1} {
			x := api.Instr{Op: 0x42, N: n}
			if s := checkBody(t, x); s != "\x42"+leb.PutS(int64(n))+"\x0b" {
				t.Errorf("%d: %s", n, short(s))
			}
			checkModule(t, api.Module{Globals: []api.Global{{Type: 126, Init: x}}, Elems: []api.Elem{{Offset: x}}, Datas: []api.Data{{Offset: x}}})
			x.Op = 0x41
			if n != int(int32(n)) {
				if s, err := Body([]api.Instr{x}); s != "" || err != api.ErrShape {
					t.Errorf("%d of 32 bits: %s, %v", n, short(s), err)
				}
				continue
			}
			checkBody(t, x)
			checkModule(t, api.Module{Globals: []api.Global{{Type: 127, Init: x}}, Elems: []api.Elem{{Offset: x}}, Datas: []api.Data{{Offset: x}}})
		}
	}
}

// Lengths are numbers, too: lists, names, texts, sections and bodies at the edges of a group.
func TestLengthsAtTheEdgesOfTheirGroups(t *testing.T) {
	for _, n := range []int{0, 1, 62, 63, 64} {
		name := strings.Repeat("n", n)
		checkModule(t, api.Module{Imports: []api.Import{{Module: name}, {Name: name}, {Module: name, Name: name}}, Exports: []api.Export{{Name: name, Kind: 1}}})
	}
	for _, middle := range []int{127, 4095} {
		for n := middle - 12; n <= min(middle+5, 4096); n++ {
			checkModule(t, api.Module{Types: []api.FuncType{{Params: many(127, n)}, {Results: many(126, n)}}})
			checkModule(t, api.Module{Types: make([]api.FuncType, n), Imports: make([]api.Import, n), Exports: make([]api.Export, n)})
			checkModule(t, api.Module{Funcs: make([]api.Func, n), Tables: make([]api.Limits, n), Mems: make([]api.Limits, n)})
			checkModule(t, api.Module{Globals: many(api.Global{Type: 127, Init: zero}, n), Elems: many(api.Elem{Offset: zero}, n), Datas: many(api.Data{Offset: zero}, n)})
			checkModule(t, api.Module{Elems: []api.Elem{{Offset: zero, Funcs: make([]int, n)}}})
			checkBody(t, api.Instr{Op: 0x0e, Labels: make([]int, n)})
		}
	}
	for _, middle := range []int{127, 16383} {
		for n := middle - 12; n <= middle+5; n++ {
			checkModule(t, api.Module{Datas: []api.Data{{Offset: zero, Bytes: strings.Repeat("d", n)}, {Offset: zero, Bytes: "e"}}})
			checkBody(t, many(nop, n)...)
			checkModule(t, api.Module{Funcs: []api.Func{{Body: many(nop, n)}, {}, {Type: n, Body: many(nop, n-1)}}})
		}
	}
}

func TestLimits(t *testing.T) {
	for _, x := range []struct {
		l     api.Limits
		bytes string
	}{
		{api.Limits{}, "00 00"},
		{api.Limits{Has: true}, "01 00 00"},
		{api.Limits{Min: 5}, "00 05"},
		{api.Limits{Min: 5, Has: true}, "01 05 00"},
		{api.Limits{Max: 5, Has: true}, "01 00 05"},
		{api.Limits{Min: 128, Max: 1<<32 - 1, Has: true}, "01 80 01 ff ff ff ff 0f"},
	} {
		bytes := bytesOf(x.bytes)
		if s := checkModule(t, api.Module{Tables: []api.Limits{x.l}}); s != head+"\x04"+plainText("\x01\x70"+bytes) {
			t.Errorf("%v: %s", x.l, short(s))
		}
		if s := checkModule(t, api.Module{Mems: []api.Limits{x.l, x.l}}); s != head+"\x05"+plainText("\x02"+bytes+bytes) {
			t.Errorf("%v: %s", x.l, short(s))
		}
	}
}

func TestLocals(t *testing.T) {
	a, b := api.I32, api.I64
	for _, x := range []struct {
		locals []int
		bytes  string
	}{
		{nil, "00"},
		{[]int{a}, "01 01 7f"},
		{[]int{b}, "01 01 7e"},
		{[]int{a, a, a}, "01 03 7f"},
		{[]int{a, b}, "02 01 7f 01 7e"},
		{[]int{b, a}, "02 01 7e 01 7f"},
		{[]int{a, a, b, b, b}, "02 02 7f 03 7e"},
		{[]int{a, b, a, b}, "04 01 7f 01 7e 01 7f 01 7e"},
		{[]int{a, a, b, a, a}, "03 02 7f 01 7e 02 7f"},
		{[]int{b, a, a, a, b}, "03 01 7e 03 7f 01 7e"},
		{many(b, 127), "01 7f 7e"},
		{many(a, 128), "01 80 01 7f"},
		{many(a, 256), "01 80 02 7f"},
		{append(many(a, 255), b), "02 ff 01 7f 01 7e"},
		{append([]int{b}, many(a, 255)...), "02 01 7e ff 01 7f"},
		{slices.Repeat([]int{a, b}, 128), "80 02" + strings.Repeat("01 7f 01 7e", 128)},
	} {
		want := bytesOf(x.bytes)
		s := checkModule(t, api.Module{Funcs: []api.Func{{Locals: x.locals}}})
		if s != head+"\x03\x02\x01\x00\x0a"+plainText("\x01"+plainText(want+"\x0b")) {
			t.Errorf("%v: %s", x.locals, short(s))
		}
	}
	// Runs end where a function does.
	checkModule(t, api.Module{Funcs: []api.Func{{Locals: []int{a, a}}, {Locals: []int{a}}, {}, {Locals: []int{b, a}, Body: []api.Instr{nop}}}})
	// Every list of up to ten.
	for count := range 11 {
		for choice := range 1 << count {
			var types []int
			for i := range count {
				types = append(types, a-choice>>i&1)
			}
			checkModule(t, api.Module{Funcs: []api.Func{{Locals: types}}})
		}
	}
}

// wrongBodies is lists of instructions that may not be written, each with its error.
func wrongBodies() map[string]struct {
	list []api.Instr
	want api.Errno
} {
	return map[string]struct {
		list []api.Instr
		want api.Errno
	}{
		"too many":                 {many(nop, 65537), api.ErrMany},
		"too many within":          {[]api.Instr{{Op: 0x02, Body: many(nop, 65536)}}, api.ErrMany},
		"too many labels":          {[]api.Instr{{Op: 0x0e, Labels: make([]int, 4097)}}, api.ErrMany},
		"too deep":                 {[]api.Instr{within(nop, 65)}, api.ErrDeep},
		"far too deep":             {[]api.Instr{within(nop, 65535)}, api.ErrDeep},
		"else":                     {[]api.Instr{{Op: 0x05}}, api.ErrShape},
		"end":                      {[]api.Instr{{Op: 0x0b}}, api.ErrShape},
		"no byte":                  {[]api.Instr{{Op: 0x101}}, api.ErrShape},
		"below 0":                  {[]api.Instr{{Op: -1}}, api.ErrShape},
		"a floating number":        {[]api.Instr{{Op: 0x43}}, api.ErrShape},
		"a nop with A":             {[]api.Instr{{Op: 0x01, A: 1}}, api.ErrShape},
		"a block with Else":        {[]api.Instr{{Op: 0x02, Else: []api.Instr{nop}}}, api.ErrShape},
		"a result that is none":    {[]api.Instr{{Op: 0x02, A: 0x40}}, api.ErrShape},
		"an index of 33 bits":      {[]api.Instr{{Op: 0x20, A: 1 << 32}}, api.ErrShape},
		"an index below 0":         {[]api.Instr{{Op: 0x20, A: -1}}, api.ErrShape},
		"a label below 0":          {[]api.Instr{{Op: 0x0e, Labels: []int{-1}}}, api.ErrShape},
		"a constant of 33 bits":    {[]api.Instr{{Op: 0x41, N: 1 << 31}}, api.ErrShape},
		"many, deep and wrong":     {append(many(nop, 65537), within(api.Instr{Op: 5}, 65)), api.ErrMany},
		"deep and wrong":           {[]api.Instr{{Op: 5}, within(nop, 65)}, api.ErrDeep},
		"long and wrong":           {append(many(api.Instr{Op: 0x0e, Labels: make([]int, 4096)}, 100), api.Instr{Op: 5}), api.ErrShape},
		"long and deep":            {append(many(api.Instr{Op: 0x0e, Labels: make([]int, 4096)}, 100), within(nop, 65)), api.ErrDeep},
		"long and far too many":    {many(api.Instr{Op: 0x42, N: math.MinInt}, 65537), api.ErrMany},
		"long, at the most":        {many(api.Instr{Op: 0x42, N: math.MinInt}, 65536), api.ErrLong},
		"wrong within":             {[]api.Instr{within(api.Instr{Op: 0x0b}, 64)}, api.ErrShape},
		"wrong by Else":            {[]api.Instr{{Op: 0x04, Else: []api.Instr{{Op: 0x05}}}}, api.ErrShape},
		"a store below 0":          {[]api.Instr{{Op: 0x36, B: -1}}, api.ErrShape},
		"the size with an operand": {[]api.Instr{{Op: 0x3f, A: 1}}, api.ErrShape},
	}
}

func TestWrongBodies(t *testing.T) {
	for what, x := range wrongBodies() {
		if s, err := Body(x.list); s != "" || err != x.want {
			t.Errorf("%s: %d bytes, %v, want %v", what, len(s), err, x.want)
		}
		if s, err := Encode(body(x.list...)); s != "" || err != x.want {
			t.Errorf("%s, in a module: %d bytes, %v, want %v", what, len(s), err, x.want)
		}
	}
}

func TestWrongModules(t *testing.T) {
	long := api.Module{Datas: many(api.Data{Offset: zero, Bytes: strings.Repeat("a", 64)}, 4096)}
	for what, x := range map[string]struct {
		m    api.Module
		want api.Errno
	}{
		"types":                {api.Module{Types: make([]api.FuncType, 4097)}, api.ErrMany},
		"params":               {api.Module{Types: []api.FuncType{{Params: many(127, 4097)}}}, api.ErrMany},
		"imports":              {api.Module{Imports: make([]api.Import, 4097)}, api.ErrMany},
		"functions":            {api.Module{Funcs: make([]api.Func, 4097)}, api.ErrMany},
		"locals":               {api.Module{Funcs: []api.Func{{Locals: many(127, 257)}}}, api.ErrMany},
		"starts":               {api.Module{Start: []int{0, 0}}, api.ErrMany},
		"funcs of an elem":     {api.Module{Elems: []api.Elem{{Offset: zero, Funcs: make([]int, 4097)}}}, api.ErrMany},
		"bytes of datas":       {api.Module{Datas: []api.Data{{Offset: zero, Bytes: strings.Repeat("a", api.MaxModule+1)}}}, api.ErrMany},
		"a type of values":     {api.Module{Types: []api.FuncType{{Params: []int{0x7d}}}}, api.ErrShape},
		"a name":               {api.Module{Imports: []api.Import{{Name: "\xff"}}}, api.ErrShape},
		"a long name":          {api.Module{Exports: []api.Export{{Name: strings.Repeat("a", 65)}}}, api.ErrShape},
		"a kind":               {api.Module{Exports: []api.Export{{Kind: 4}}}, api.ErrShape},
		"Max without Has":      {api.Module{Mems: []api.Limits{{Max: 1}}}, api.ErrShape},
		"an Init":              {api.Module{Globals: []api.Global{{Type: 127, Init: nop}}}, api.ErrShape},
		"an Offset":            {api.Module{Datas: []api.Data{{}}}, api.ErrShape},
		"a start below 0":      {api.Module{Start: []int{-1}}, api.ErrShape},
		"a start of 33 bits":   {api.Module{Start: []int{1 << 32}}, api.ErrShape},
		"only long":            {long, api.ErrLong},
		"long and wrong":       {together(long, api.Module{Start: []int{-1}}), api.ErrShape},
		"long and many":        {together(long, api.Module{Start: []int{1, 1}}), api.ErrMany},
		"long and deep":        {together(long, body(within(nop, 65))), api.ErrDeep},
		"long and a long body": {together(long, body(many(nop, 65536)...)), api.ErrLong},
	} {
		if s, err := Encode(x.m); s != "" || err != x.want {
			t.Errorf("%s: %d bytes, %v, want %v", what, len(s), err, x.want)
		}
	}
}

// bytesWide is an expression of as many bytes as there are, the end apart; in few instructions.
func bytesWide(count int) []api.Instr {
	var out []api.Instr
	for ; count > 4200; count -= 4099 {
		out = append(out, api.Instr{Op: 0x0e, Labels: make([]int, 4095)})
	}
	return append(out, many(nop, count)...)
}

// just is what f makes of the number of which its module has just so many bytes.
func just(t *testing.T, bytes int, f func(n int) api.Module) api.Module {
	t.Helper()
	n := 0
	for range 4 { // lengths grow, too
		n += bytes - len(plainModule(f(n)))
	}
	if got := len(plainModule(f(n))); got != bytes {
		t.Fatalf("%d bytes, want %d", got, bytes)
	}
	return f(n)
}

func TestModulesOfJustTheMost(t *testing.T) {
	datas := func(n int) api.Module {
		return api.Module{Datas: []api.Data{{Offset: zero, Bytes: strings.Repeat("a", n)}}}
	}
	part := api.Func{Locals: []int{127}, Body: bytesWide(100000)}
	for what, f := range map[string]func(n int) api.Module{
		"datas":                 datas,
		"every section":         func(n int) api.Module { return together(datas(n), full()) },
		"a start":               func(n int) api.Module { return together(datas(n), api.Module{Start: []int{1 << 31}}) },
		"a body":                func(n int) api.Module { return body(bytesWide(n)...) },
		"bodies":                func(n int) api.Module { return api.Module{Funcs: []api.Func{part, {Body: bytesWide(n)}, part}} },
		"a body ahead of datas": func(n int) api.Module { return together(datas(100000), body(bytesWide(n)...)) },
		"types": func(n int) api.Module {
			return together(datas(260000), api.Module{Types: []api.FuncType{{Params: many(126, n)}}})
		},
	} {
		for bytes := 1<<18 - 3; bytes <= 1<<18; bytes++ {
			if s := checkModule(t, just(t, bytes, f)); len(s) != bytes {
				t.Errorf("%s, %d bytes: %d", what, bytes, len(s))
			}
		}
		for bytes := 1<<18 + 1; bytes <= 1<<18+12; bytes++ {
			if s, err := Encode(just(t, bytes, f)); s != "" || err != api.ErrLong {
				t.Errorf("%s, %d bytes: %d, %v", what, bytes, len(s), err)
			}
		}
	}
}

// Of a body the expression alone counts, its end with it.
func TestBodiesOfJustTheMost(t *testing.T) {
	for _, list := range [][]api.Instr{
		bytesWide(1<<18 - 1),
		append(many(api.Instr{Op: 0x42, N: 1 << 20}, 52428), bytesWide(3)...),
		{{Op: 0x02, Body: bytesWide(1<<18 - 4)}},
		{{Op: 0x04, Body: bytesWide(1 << 17), Else: bytesWide(1<<17 - 5)}},
		append(many(api.Instr{Op: 0x42, N: 1 << 13}, 65532), api.Instr{Op: 0x41, N: 1 << 30}, api.Instr{Op: 0x40}, api.Instr{Op: 0x42, N: 1 << 13}, api.Instr{Op: 0x41, N: 1 << 6}),
	} {
		s, err := Body(list)
		if len(s) != 1<<18 || s != plainExpr(list...) || err != api.OK {
			t.Errorf("%d bytes, %v", len(s), err)
		}
		// As a module the same is too long.
		if s, err := Encode(body(list...)); s != "" || err != api.ErrLong {
			t.Errorf("as a module: %d bytes, %v", len(s), err)
		}
		if wast.Count(body(list...)) == api.MaxInstrs {
			continue
		}
		for _, longer := range [][]api.Instr{append(slices.Clone(list), nop), append([]api.Instr{nop}, list...)} {
			if s, err := Body(longer); s != "" || err != api.ErrLong {
				t.Errorf("one more: %d bytes, %v", len(s), err)
			}
		}
	}
}

// Trees that would have many more bytes than may be told are left as soon as that is seen.
func TestFarTooLong(t *testing.T) {
	table := api.Instr{Op: 0x0e, Labels: many(1<<32-1, 4096)}
	nested := many(table, 64)
	for range 63 {
		nested = []api.Instr{table, {Op: 0x02, Body: nested}, table}
	}
	for what, m := range map[string]api.Module{
		"tables":        body(many(table, 65536)...),
		"nested tables": body(nested...),
		"by Else":       body(api.Instr{Op: 0x04, Body: many(table, 30000), Else: many(table, 30000)}),
		"bodies":        {Funcs: many(api.Func{Body: many(table, 16)}, 4096)},
		"types":         {Types: many(api.FuncType{Params: many(127, 4096), Results: many(126, 4096)}, 4096)},
		"elems":         {Elems: many(api.Elem{Offset: zero, Funcs: many(1<<32-1, 4096)}, 4096)},
		"imports":       {Imports: many(api.Import{Module: strings.Repeat("a", 64), Name: strings.Repeat("b", 64)}, 4096)},
		"exports":       {Exports: many(api.Export{Name: strings.Repeat("a", 64)}, 4096)},
		"locals":        {Funcs: many(api.Func{Locals: slices.Repeat([]int{126, 127}, 128)}, 4096)},
	} {
		var before, after runtime.MemStats
		runtime.ReadMemStats(&before)
		s, err := Encode(m)
		runtime.ReadMemStats(&after)
		if s != "" || err != api.ErrLong {
			t.Errorf("%s: %d bytes, %v", what, len(s), err)
		}
		if made := after.TotalAlloc - before.TotalAlloc; made > 16<<20 {
			t.Errorf("%s: %d bytes of memory made", what, made)
		}
	}
	if s, err := Body(many(table, 65536)); s != "" || err != api.ErrLong {
		t.Errorf("a body: %d bytes, %v", len(s), err)
	}
}

// oneChanged is modules that are full but for one field each.
func oneChanged() []api.Module {
	instr := func(i int, change func(x *api.Instr)) func(*api.Module) {
		return func(m *api.Module) { change(&m.Funcs[0].Body[i]) }
	}
	var out []api.Module
	for _, change := range []func(m *api.Module){
		func(*api.Module) {},
		func(m *api.Module) { m.Types = nil }, func(m *api.Module) { m.Types = m.Types[:1] }, func(m *api.Module) { m.Types[1].Params[0] = 127 }, func(m *api.Module) { m.Types[1].Results[1] = 126 },
		func(m *api.Module) { m.Types[1].Params = nil }, func(m *api.Module) { m.Types[1].Results = nil }, func(m *api.Module) { slices.Reverse(m.Types) },
		func(m *api.Module) { m.Imports = nil }, func(m *api.Module) { m.Imports[1].Module = "a" }, func(m *api.Module) { m.Imports[1].Name = "a" }, func(m *api.Module) { m.Imports[1].Type = 0 },
		func(m *api.Module) { m.Imports[0].Module, m.Imports[0].Name = "envr", "ead" },
		func(m *api.Module) { m.Funcs = nil }, func(m *api.Module) { m.Funcs[1].Type = 0 }, func(m *api.Module) { m.Funcs[1].Locals[0] = 127 }, func(m *api.Module) { m.Funcs[1].Locals = nil },
		func(m *api.Module) { m.Funcs[0].Locals = []int{127, 126, 127, 127} }, func(m *api.Module) { m.Funcs[0].Locals = []int{127, 127, 126, 127, 127} }, func(m *api.Module) { m.Funcs[1].Body = nil },
		instr(0, func(x *api.Instr) { x.Op = 0x21 }), instr(0, func(x *api.Instr) { x.A = 2 }), instr(1, func(x *api.Instr) { x.N = 5 }), instr(1, func(x *api.Instr) { x.Op = 0x42 }), instr(2, func(x *api.Instr) { x.Op = 0x6b }), instr(3, func(x *api.Instr) { x.N++ }),
		instr(6, func(x *api.Instr) { x.Op = 0x37 }), instr(6, func(x *api.Instr) { x.A = 3 }), instr(6, func(x *api.Instr) { x.B = 3 }),
		instr(7, func(x *api.Instr) { x.Op = 0x03 }), instr(7, func(x *api.Instr) { x.Op = 0x04 }), instr(7, func(x *api.Instr) { x.A = 126 }), instr(7, func(x *api.Instr) { x.A = 0 }), instr(7, func(x *api.Instr) { x.Body = x.Body[:2] }),
		instr(7, func(x *api.Instr) { x.Body[1].Labels[1] = 5 }), instr(7, func(x *api.Instr) { x.Body[1].Labels = nil }), instr(7, func(x *api.Instr) { x.Body[1].A = 3 }),
		instr(8, func(x *api.Instr) { x.Else = nil }), instr(8, func(x *api.Instr) { x.Body, x.Else = nil, slices.Concat(x.Body, x.Else) }), instr(8, func(x *api.Instr) { x.Body, x.Else = slices.Concat(x.Body, x.Else), nil }), instr(8, func(x *api.Instr) { x.Body, x.Else = x.Else, x.Body }),
		instr(8, func(x *api.Instr) { x.Else[0].Body = nil }), instr(8, func(x *api.Instr) { x.Else[1].A = 0 }),
		func(m *api.Module) { m.Tables = nil }, func(m *api.Module) { m.Tables[0].Min = 0 }, func(m *api.Module) { m.Tables[0].Max = 0 }, func(m *api.Module) { m.Tables[1].Has = true },
		func(m *api.Module) { m.Mems = nil }, func(m *api.Module) { m.Mems[0].Min = 0 }, func(m *api.Module) { m.Mems[0].Max = 0 }, func(m *api.Module) { m.Mems[1].Has = true },
		func(m *api.Module) { m.Globals = nil }, func(m *api.Module) { m.Globals[1].Type = 127 }, func(m *api.Module) { m.Globals[1].Mut = true }, func(m *api.Module) { m.Globals[1].Init.A = 0 }, func(m *api.Module) { m.Globals[0].Init.Op = 0x42 }, func(m *api.Module) { m.Globals[0].Init.N = 2 },
		func(m *api.Module) { m.Exports = nil }, func(m *api.Module) { m.Exports[1].Name = "" }, func(m *api.Module) { m.Exports[1].Kind = 0 }, func(m *api.Module) { m.Exports[1].Index = 0 },
		func(m *api.Module) { m.Start[0] = 0 }, func(m *api.Module) { m.Start = nil },
		func(m *api.Module) { m.Elems = nil }, func(m *api.Module) { m.Elems[1].Offset.A = 0 }, func(m *api.Module) { m.Elems[1].Funcs[0] = 0 }, func(m *api.Module) { m.Elems[1].Funcs = nil },
		func(m *api.Module) { m.Datas = nil }, func(m *api.Module) { m.Datas[1].Offset.A = 0 }, func(m *api.Module) { m.Datas[1].Bytes = "" }, func(m *api.Module) { m.Datas[0].Bytes = "\xff" },
	} {
		m := full()
		change(&m)
		out = append(out, m)
	}
	return out
}

// Modules that differ in one field, each with each: just those that are the same have the same bytes.
func TestUnlikeModulesHaveUnlikeBytes(t *testing.T) {
	list := oneChanged()
	for _, x := range alone {
		list = append(list, x.m)
	}
	for _, x := range parts() {
		list = append(list, body(x), body(nop, x), body(x, nop), body(within(x, 1)), body(api.Instr{Op: 0x04, Else: []api.Instr{x}}))
	}
	first := map[string]int{}
	for i, m := range list {
		s := checkModule(t, m)
		if j, taken := first[s]; taken && !wast.Same(m, list[j]) {
			t.Errorf("modules %d and %d have the same bytes: %s", i, j, short(s))
		} else if !taken {
			first[s] = i
		}
	}
	for i, a := range oneChanged() {
		for j, b := range oneChanged() {
			if wast.Same(a, b) != (i == j) {
				t.Errorf("changes %d and %d are one", i, j)
			}
		}
	}
}

// fields shows everything in v that is a number, a text, a bool or a list, in one order.
func fields(v reflect.Value, see func(v reflect.Value)) {
	switch v.Kind() {
	case reflect.Struct:
		for i := range v.NumField() {
			fields(v.Field(i), see)
		}
		return
	case reflect.Slice:
		for i := range v.Len() {
			fields(v.Index(i), see)
		}
	}
	see(v)
}

// copied is v in new memory, no list of it nil, with so many entries of spare room behind each.
func copied(v reflect.Value, spare int) reflect.Value {
	out := reflect.New(v.Type()).Elem()
	out.Set(v)
	switch v.Kind() {
	case reflect.Struct:
		for i := range v.NumField() {
			out.Field(i).Set(copied(v.Field(i), spare))
		}
	case reflect.Slice:
		out.Set(reflect.MakeSlice(v.Type(), v.Len()+spare, v.Len()+spare))
		for i := range v.Len() {
			out.Index(i).Set(copied(v.Index(i), spare))
		}
		out.Set(out.Slice(0, v.Len()))
	}
	return out
}

// spareStays tells whether what stands behind the lists in v is still zero.
func spareStays(v reflect.Value) bool {
	stays := true
	fields(v, func(v reflect.Value) {
		if v.Kind() == reflect.Slice {
			for i := v.Len(); i < v.Cap(); i++ {
				stays = stays && v.Slice(0, v.Cap()).Index(i).IsZero()
			}
		}
	})
	return stays
}

// A list that is nil and one that is empty are one, and nothing that is handed in is changed.
func TestArgumentsStay(t *testing.T) {
	list := slices.Concat(oneChanged(), []api.Module{{}, body(), body(nop), body(within(nop, 65)), {Start: []int{-1}}, {Types: []api.FuncType{{}}}, {Elems: []api.Elem{{Offset: zero}}}})
	for i, m := range list {
		s, err := Encode(m)
		for _, spare := range []int{0, 2} {
			given := copied(reflect.ValueOf(m), spare)
			again, errAgain := Encode(given.Interface().(api.Module))
			if again != s || errAgain != err {
				t.Errorf("module %d, with empty lists: %s, %v", i, short(again), errAgain)
			}
			if !wast.Same(given.Interface().(api.Module), m) || !spareStays(given) {
				t.Errorf("module %d is not as it was", i)
			}
			for _, f := range given.Interface().(api.Module).Funcs {
				before, _ := Body(f.Body)
				if after, _ := Body(f.Body); before != after || !spareStays(given) {
					t.Errorf("a body of module %d is not as it was", i)
				}
			}
		}
	}
	for _, l := range [][]api.Instr{nil, {}, make([]api.Instr, 0, 4)} {
		if s, err := Body(l); s != "\x0b" || err != api.OK {
			t.Error(short(s), err)
		}
	}
	for _, x := range []api.Instr{{Op: 0x04, Body: []api.Instr{nop}}, {Op: 0x0e, A: 1}, {Op: 0x02}, {Op: 0x01}, {Op: 0x41, N: 3}} {
		s, _ := Body([]api.Instr{x})
		x.Labels = []int{}
		if x.Else = []api.Instr{}; len(x.Body) == 0 {
			x.Body = []api.Instr{}
		}
		if again, err := Body([]api.Instr{x}); again != s || err != api.OK {
			t.Errorf("%v: %s, %v", x, short(again), err)
		}
	}
}

// chance is numbers all over, the same each time.
type chance uint64

func (c *chance) below(n int) int {
	*c ^= *c << 13
	*c ^= *c >> 7
	*c ^= *c << 17
	return int(uint64(*c) >> 1 % uint64(n))
}

// index is a number of up to 32 bits, of any of their lengths.
func (c *chance) index() int { return c.below(1<<32) >> c.below(33) }

func (c *chance) typ() int { return 126 + c.below(2) }

// some is a list of fewer than most that one makes.
func some[T any](c *chance, most int, one func() T) []T {
	var out []T
	for range c.below(most) {
		out = append(out, one())
	}
	return out
}

func (c *chance) name() string {
	return strings.Repeat([]string{"a", "\u00e9", "\u20ac"}[c.below(3)], c.below(22))
}

func (c *chance) limits() api.Limits {
	l := api.Limits{Min: c.index(), Has: c.below(2) == 0}
	if l.Has {
		l.Max = c.index()
	}
	return l
}

func (c *chance) constant() api.Instr {
	switch c.below(3) {
	case 0:
		return api.Instr{Op: 0x23, A: c.index()}
	case 1:
		return api.Instr{Op: 0x41, N: c.index() - 1<<31}
	}
	return api.Instr{Op: 0x42, N: c.index() * c.index() * (1 - c.below(3))}
}

// instr is an instruction of some form, with others in it down to that depth.
func (c *chance) instr(depth int) api.Instr {
	list := parts()
	x := list[c.below(len(list))]
	switch wast.Form(x.Op) {
	case wast.FormBlock, wast.FormIf:
		x.A = []int{0, 126, 127}[c.below(3)]
		x.Body, x.Else = c.body(depth-1), nil
		if x.Op == 0x04 && c.below(2) == 0 {
			x.Else = c.body(depth - 1)
		}
	case wast.FormTable:
		x.A, x.Labels = c.index(), some(c, 5, c.index)
	case wast.FormLabel, wast.FormIndex, wast.FormIndirect:
		x.A = c.index()
	case wast.FormMemory:
		x.A, x.B = c.index(), c.index()
	case wast.FormConst:
		return c.constant()
	}
	return x
}

func (c *chance) body(depth int) []api.Instr {
	if depth < 0 {
		return nil
	}
	return some(c, 6, func() api.Instr { return c.instr(depth) })
}

func (c *chance) module() api.Module {
	return api.Module{
		Types: some(c, 4, func() api.FuncType { return api.FuncType{Params: some(c, 5, c.typ), Results: some(c, 3, c.typ)} }),
		Imports: some(c, 4, func() api.Import {
			return api.Import{Module: c.name(), Name: c.name(), Type: c.index()}
		}),
		Funcs: some(c, 4, func() api.Func {
			return api.Func{Type: c.index(), Locals: some(c, 9, c.typ), Body: c.body(4)}
		}),
		Tables: some(c, 3, c.limits),
		Mems:   some(c, 3, c.limits),
		Globals: some(c, 4, func() api.Global {
			return api.Global{Type: c.typ(), Mut: c.below(2) == 0, Init: c.constant()}
		}),
		Exports: some(c, 4, func() api.Export { return api.Export{Name: c.name(), Kind: c.below(4), Index: c.index()} }),
		Start:   some(c, 2, c.index),
		Elems:   some(c, 4, func() api.Elem { return api.Elem{Offset: c.constant(), Funcs: some(c, 5, c.index)} }),
		Datas: some(c, 4, func() api.Data {
			return api.Data{Offset: c.constant(), Bytes: strings.Repeat(strconv.Itoa(c.below(100)), c.below(70))}
		}),
	}
}

func TestModulesOfAllKinds(t *testing.T) {
	c := chance(88172645463325252)
	first := map[string]api.Module{}
	for range 4000 {
		m := c.module()
		s := checkModule(t, m)
		if other, taken := first[s]; taken && !wast.Same(other, m) {
			t.Errorf("two modules have the bytes %s", short(s))
		}
		first[s] = m
		for _, f := range m.Funcs {
			checkBody(t, f.Body...)
		}
	}
	if len(first) < 3900 {
		t.Error("too few modules:", len(first))
	}
}

func FuzzModules(f *testing.F) {
	f.Add(uint64(1), 0x41, 0, 0, 0)
	f.Add(uint64(7), 0x04, 127, 0, 0)
	f.Add(uint64(9), 0x28, 2, 1<<32-1, 0)
	f.Fuzz(func(t *testing.T, seed uint64, op, a, b, n int) {
		c := chance(seed | 1)
		m := c.module()
		m.Funcs = append(m.Funcs, api.Func{Body: []api.Instr{{Op: op, A: a, B: b, N: n}}})
		if err := wast.Check(m); err == api.OK {
			checkModule(t, m)
		} else if s, got := Encode(m); s != "" || got != err {
			t.Errorf("%d bytes, %v, want %v", len(s), got, err)
		}
	})
}
