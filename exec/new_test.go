package exec

import (
	"math"
	"reflect"
	"strings"
	"testing"

	"athanor/api"
)

// This file is about New: its errors, and what a machine is ahead of its first run (P8.1).

// change is something for which New tells no machine. Those of one slot cannot be done both.
type change struct {
	what string
	slot string
	do   func(m *api.Module, s *api.Script)
	want api.Errno
}

// changes is each error of New in its ways, in the order in which they are told.
func changes() []change {
	return append(changesOfModules(), changesOfInstances()...)
}

func changesOfModules() []change {
	return []change{
		{"too many types", "", func(m *api.Module, s *api.Script) { m.Types = append(m.Types, make([]api.FuncType, 4096)...) }, api.ErrMany},
		{"a name that is none", "", func(m *api.Module, s *api.Script) {
			m.Exports = append(m.Exports, api.Export{Name: "\xff"})
		}, api.ErrShape},
		{"a function of no type", "", func(m *api.Module, s *api.Script) { m.Funcs[1].Type = 99 }, api.ErrIndex},
		{"an export twice", "", func(m *api.Module, s *api.Script) { m.Exports = append(m.Exports, api.Export{Name: "f"}) }, api.ErrTwice},
		{"a body that is not of its type", "", func(m *api.Module, s *api.Script) { m.Funcs[0].Body = nil }, api.ErrType},
	}
}

func changesOfInstances() []change {
	typ := func(n int, typ string) func(m *api.Module, s *api.Script) {
		return func(m *api.Module, s *api.Script) { m.Imports[n].Type = typeIndex(m, typ) }
	}
	return []change{
		{"too many inputs", "", func(m *api.Module, s *api.Script) { s.Inputs = make([]int, 257) }, api.ErrArg},
		{"too many answers", "", func(m *api.Module, s *api.Script) { s.Force = make([]bool, 65537) }, api.ErrArg},
		{"an import of another Module", "", func(m *api.Module, s *api.Script) { m.Imports[4].Module = "Env" }, api.ErrLink},
		{"an import of no Module", "", func(m *api.Module, s *api.Script) { m.Imports[3].Module = "" }, api.ErrLink},
		{"an import of another Name", "", func(m *api.Module, s *api.Script) { m.Imports[2].Name = "writes" }, api.ErrLink},
		{"an import of another type", "", typ(1, "i>"), api.ErrLink},
		{"a table that is too large", "table", func(m *api.Module, s *api.Script) { m.Tables[0].Min = 4097 }, api.ErrRoom},
		{"a memory that is too large", "memory", func(m *api.Module, s *api.Script) { m.Mems[0] = api.Limits{Min: 33} }, api.ErrRoom},
		{"an Elem beyond the table", "table", func(m *api.Module, s *api.Script) { m.Elems[0].Offset.N = 7 }, api.ErrBounds},
		{"a Data beyond the memory", "memory", func(m *api.Module, s *api.Script) { m.Datas[0].Offset.N = 65535 }, api.ErrBounds},
	}
}

// filledModule is a module with something to fill.
func filledModule() api.Module {
	m := build("i>i: get.0", ">i: i.1")
	m.Elems = []api.Elem{{Offset: number32(6), Funcs: []int{5, 6}}}
	m.Datas = []api.Data{{Offset: number32(65534), Bytes: "ab"}}
	return m
}

// checkNew wants an error, and a machine just where there is none.
func checkNew(t *testing.T, what string, m api.Module, s api.Script, want api.Errno) *Machine {
	t.Helper()
	x, err := New(m, s)
	if err != want || (x != nil) != (want == api.OK) {
		t.Fatalf("%s: %v, %v, want %v", what, x != nil, err, want)
	}
	if _, plainly := plainNew(m, s); plainly != want {
		t.Fatalf("%s, plainly: %v, want %v", what, plainly, want)
	}
	return x
}

func TestEachErrorOfNewAlone(t *testing.T) {
	checkNew(t, "nothing wrong", filledModule(), api.Script{}, api.OK)
	for _, c := range changes() {
		m, s := filledModule(), api.Script{}
		c.do(&m, &s)
		checkNew(t, c.what, m, s, c.want)
	}
}

// Of two errors the one that the chapter names first is told, whichever was made first.
func TestTwoErrorsOfNew(t *testing.T) {
	all := changes()
	for i, a := range all {
		for _, b := range all[i+1:] {
			if a.slot != "" && a.slot == b.slot {
				continue
			}
			m, s := filledModule(), api.Script{}
			a.do(&m, &s)
			b.do(&m, &s)
			checkNew(t, a.what+", "+b.what, m, s, a.want)
			m, s = filledModule(), api.Script{}
			b.do(&m, &s)
			a.do(&m, &s)
			checkNew(t, b.what+", "+a.what, m, s, a.want)
		}
	}
}

func TestScriptsUpToTheirLimits(t *testing.T) {
	for _, n := range []int{0, 1, 255, 256} {
		checkNew(t, "inputs", build(), api.Script{Inputs: make([]int, n)}, api.OK)
	}
	for _, n := range []int{0, 1, 257, 65535, 65536} {
		checkNew(t, "answers", build(), api.Script{Force: make([]bool, n)}, api.OK)
	}
	for _, n := range []int{257, 258, 65536} {
		checkNew(t, "inputs", build(), api.Script{Inputs: make([]int, n)}, api.ErrArg)
	}
	checkNew(t, "answers", build(), api.Script{Force: make([]bool, 1<<17)}, api.ErrArg)
}

// Each name of the host's with each type near its own: just its own is linked.
func TestImports(t *testing.T) {
	own := map[string]string{"read": ">i", "more": ">i", "write": "i>", "show": "i>", "force": ">i"}
	for _, name := range []string{"read", "more", "write", "show", "force", "", "Read", "reads", "rea", "main", "env"} {
		for _, typ := range []string{">", ">i", ">l", "i>", "l>", "i>i", "i>l", "ii>", "l>i", "ii>i"} {
			for _, module := range []string{"env", "", "en", "envs", "ENV", "read"} {
				var m api.Module
				m.Imports = []api.Import{{Module: module, Name: name, Type: typeIndex(&m, typ)}}
				want := api.ErrLink
				if module == "env" && own[name] == typ {
					want = api.OK
				}
				checkNew(t, module+" "+name+" "+typ, m, api.Script{}, want)
			}
		}
	}
}

// An import may stand there often, and a type may stand there twice.
func TestImportsOfOneName(t *testing.T) {
	m := build(">i: read call.5 6b")
	m.Types = append(m.Types, api.FuncType{Results: []int{api.I32}})
	again := api.Import{Module: "env", Name: "read", Type: len(m.Types) - 1}
	m.Imports = append(m.Imports, again)
	m.Exports[len(m.Exports)-1].Index = 6
	c, _ := newPair(t, "read twice", m, api.Script{Inputs: []int{9, 2}})
	checkOutcome(t, "read twice", c.call(t, "read twice", "f", nil, 9), api.Outcome{End: api.EndDone, Results: []int{7}, Steps: 3, Read: 2})
}

func TestRooms(t *testing.T) {
	for min, want := range map[int]api.Errno{0: api.OK, 4095: api.OK, 4096: api.OK, 4097: api.ErrRoom, 1<<32 - 1: api.ErrRoom} {
		m := api.Module{Tables: []api.Limits{{Min: min}}}
		checkNew(t, "a table", m, api.Script{}, want)
		m.Tables[0] = api.Limits{Min: min, Max: 1<<32 - 1, Has: true}
		checkNew(t, "a table with a Max", m, api.Script{}, want)
	}
	for min, want := range map[int]api.Errno{0: api.OK, 1: api.OK, 32: api.OK, 33: api.ErrRoom, 65536: api.ErrRoom, 65537: api.ErrType} {
		m := api.Module{Mems: []api.Limits{{Min: min}}}
		x := checkNew(t, "a memory", m, api.Script{}, want)
		if want == api.OK && (x.Memory() == nil || x.Memory().Pages() != min) {
			t.Errorf("%d pages: %d", min, x.Memory().Pages())
		}
	}
	checkNew(t, "a memory with a Max", api.Module{Mems: []api.Limits{{Min: 32, Max: 65536, Has: true}}}, api.Script{}, api.OK)
}

// Offsets and lengths about the end of a table of 8 places and of a memory of a page.
func TestWhatIsFilledUpToTheEnd(t *testing.T) {
	for _, c := range []struct {
		offset, length int
		want           api.Errno
	}{
		{0, 0, api.OK}, {0, 1, api.OK}, {0, 8, api.OK}, {0, 9, api.ErrBounds}, {7, 0, api.OK}, {7, 1, api.OK}, {7, 2, api.ErrBounds}, {8, 0, api.OK}, {8, 1, api.ErrBounds}, {9, 0, api.ErrBounds}, {9, 1, api.ErrBounds},
		{-1, 0, api.ErrBounds}, {-1, 1, api.ErrBounds}, {-8, 8, api.ErrBounds}, {-1, 2, api.ErrBounds}, {math.MinInt32, 0, api.ErrBounds}, {math.MinInt32, 1, api.ErrBounds}, {math.MaxInt32, 0, api.ErrBounds}, {math.MaxInt32, 1, api.ErrBounds},
	} {
		m := build(">: nop")
		m.Elems = []api.Elem{{Offset: number32(c.offset), Funcs: make([]int, c.length)}}
		checkNew(t, "an Elem", m, api.Script{}, c.want)
		m.Elems = append([]api.Elem{{Offset: number32(3), Funcs: []int{1}}, {Offset: number32(8)}}, m.Elems...)
		checkNew(t, "an Elem behind others", m, api.Script{}, c.want)

		m = build(">: nop")
		if c.offset >= 0 && c.offset < 65536 {
			c.offset += 65536 - 8
		}
		m.Datas = []api.Data{{Offset: number32(c.offset), Bytes: strings.Repeat("x", c.length)}}
		checkNew(t, "a Data", m, api.Script{}, c.want)
		m.Datas = append([]api.Data{{Offset: number32(3), Bytes: "abc"}, {Offset: number32(65536)}}, m.Datas...)
		checkNew(t, "a Data behind others", m, api.Script{}, c.want)
	}
}

// What there is nothing of has its end at 0.
func TestWhatIsFilledOfNothing(t *testing.T) {
	for offset, want := range map[int]api.Errno{0: api.OK, 1: api.ErrBounds, -1: api.ErrBounds} {
		checkNew(t, "no places", api.Module{Tables: []api.Limits{{}}, Elems: []api.Elem{{Offset: number32(offset)}}}, api.Script{}, want)
		checkNew(t, "no pages", api.Module{Mems: []api.Limits{{}}, Datas: []api.Data{{Offset: number32(offset)}}}, api.Script{}, want)
	}
	m := bare(">: nop")
	m.Tables, m.Mems = []api.Limits{{}}, []api.Limits{{}}
	m.Elems = []api.Elem{{Funcs: []int{0}, Offset: number32(0)}}
	checkNew(t, "a place more than none", m, api.Script{}, api.ErrBounds)
	m.Elems, m.Datas = nil, []api.Data{{Bytes: "x", Offset: number32(0)}}
	checkNew(t, "a byte more than none", m, api.Script{}, api.ErrBounds)
}

// Min is what is there: Max gives no room to fill.
func TestWhatIsFilledBelowMax(t *testing.T) {
	m := build(">: nop")
	m.Tables[0] = api.Limits{Min: 1, Max: 9, Has: true}
	m.Elems = []api.Elem{{Offset: number32(1), Funcs: []int{0}}}
	checkNew(t, "a place below Max", m, api.Script{}, api.ErrBounds)
	m.Elems, m.Datas = nil, []api.Data{{Offset: number32(65536), Bytes: "x"}}
	checkNew(t, "a byte below Max", m, api.Script{}, api.ErrBounds)
}

// The later ones are put over those ahead of them; places that nothing fills stay empty, and bytes 0.
func TestFilledInOrder(t *testing.T) {
	m := build("i>i: get.0 ind.>i", ">i: i.70", ">i: i.80", ">i: i.90")
	m.Elems = []api.Elem{{Offset: number32(1), Funcs: []int{6, 6, 6}}, {Offset: number32(2), Funcs: []int{7, 7, 7}}, {Offset: number32(3), Funcs: []int{8}}, {Offset: number32(7), Funcs: []int{8}}, {Offset: number32(1)}}
	m.Datas = []api.Data{{Offset: number32(1), Bytes: "aaaa"}, {Offset: number32(2), Bytes: "bbbb"}, {Offset: number32(3), Bytes: "c"}, {Offset: number32(65535), Bytes: "d"}, {Offset: number32(65536)}}
	c, _ := newPair(t, "filled", m, api.Script{})
	if got, ok := c.x.Memory().Text(0, 8); got != "\x00abcbb\x00\x00" || !ok {
		t.Errorf("%q, %v", got, ok)
	}
	c.checkMemory(t, "filled")
	for place, want := range []int{0, 70, 80, 90, 80, 0, 0, 90} {
		o := c.call(t, "a place", "f", []int{place}, 9)
		switch {
		case want == 0 && (o.End != api.EndTrap || o.Trap != api.TrapEmpty):
			t.Errorf("%d: %+v, want an empty place", place, o)
		case want != 0:
			checkOutcome(t, "a place", o, api.Outcome{End: api.EndDone, Results: []int{want}, Steps: 3})
		}
	}
}

func TestGlobalsAsTheirInits(t *testing.T) {
	var m api.Module
	list := []int{0, 1, -1, 5, -5, math.MaxInt32, math.MinInt32, math.MaxInt64, math.MinInt64, 1 << 40, -1 << 40}
	for i, n := range list {
		if i < 7 {
			m.Globals = append(m.Globals, api.Global{Type: api.I32, Mut: i%2 == 0, Init: number32(n)})
		} else {
			m.Globals = append(m.Globals, api.Global{Type: api.I64, Mut: i%2 == 0, Init: number64(n)})
		}
	}
	x := checkNew(t, "globals", m, api.Script{}, api.OK)
	for i, want := range list {
		if got, ok := x.Global(i); got != want || !ok {
			t.Errorf("%d: %d, %v, want %d", i, got, ok, want)
		}
	}
}

// New runs nothing, the Start neither.
func TestNewRunsNothing(t *testing.T) {
	m := build(">: i.9 gset.0 i.0 i.7 36.0 i.3 write")
	m.Start = []int{ownFirst}
	x := checkNew(t, "a Start", m, api.Script{}, api.OK)
	if n, _ := x.Global(0); n != -5 {
		t.Error("the Start was run:", n)
	}
	if v, _ := x.Memory().Load(0, 4); v != 0 {
		t.Error("the Start was run:", v)
	}
}

func TestEmptyModule(t *testing.T) {
	x := checkNew(t, "nothing", api.Module{}, api.Script{}, api.OK)
	if x.Memory() != nil {
		t.Error("a memory")
	}
	if _, ok := x.Global(0); ok || x.SetGlobal(0, 0) {
		t.Error("a global")
	}
	for _, name := range []string{"", "f", "read", "env"} {
		if o, err := x.Call(name, nil, 0); err != api.ErrExport || !reflect.DeepEqual(o, api.Outcome{}) {
			t.Error(name, o, err)
		}
	}
	checkNew(t, "empty lists", api.Module{Types: []api.FuncType{}, Imports: []api.Import{}, Funcs: []api.Func{}, Tables: []api.Limits{}, Mems: []api.Limits{}, Globals: []api.Global{}, Exports: []api.Export{}, Start: []int{}, Elems: []api.Elem{}, Datas: []api.Data{}}, api.Script{Inputs: []int{}, Force: []bool{}}, api.OK)
}

// copyOf is a value with lists of its own, all through; each has spare room, with something in it.
func copyOf(v reflect.Value) reflect.Value {
	switch v.Kind() {
	case reflect.Slice:
		out := reflect.MakeSlice(v.Type(), v.Len(), v.Len()+2)
		for i := range v.Len() {
			out.Index(i).Set(copyOf(v.Index(i)))
		}
		whole := out.Slice(0, out.Cap())
		for i := v.Len(); i < whole.Len(); i++ {
			if whole.Index(i).Kind() == reflect.Int {
				whole.Index(i).SetInt(12345)
			}
		}
		return out
	case reflect.Struct:
		out := reflect.New(v.Type()).Elem()
		for i := range v.NumField() {
			out.Field(i).Set(copyOf(v.Field(i)))
		}
		return out
	}
	return v
}

// wipe sets everything in the lists of v to zero, all through.
func wipe(v reflect.Value) {
	switch v.Kind() {
	case reflect.Slice:
		for i := range v.Len() {
			wipe(v.Index(i))
			v.Index(i).SetZero()
		}
	case reflect.Struct:
		for i := range v.NumField() {
			wipe(v.Field(i))
		}
	}
}

// spare is all ints in the spare room of v's lists, all through.
func spare(v reflect.Value) []int {
	var out []int
	switch v.Kind() {
	case reflect.Slice:
		for i := range v.Len() {
			out = append(out, spare(v.Index(i))...)
		}
		whole := v.Slice(0, v.Cap())
		for i := v.Len(); i < whole.Len(); i++ {
			if whole.Index(i).Kind() == reflect.Int {
				out = append(out, int(whole.Index(i).Int()))
			}
		}
	case reflect.Struct:
		for i := range v.NumField() {
			out = append(out, spare(v.Field(i))...)
		}
	}
	return out
}

func copyOfAll(m api.Module, s api.Script) (api.Module, api.Script) {
	return copyOf(reflect.ValueOf(m)).Interface().(api.Module), copyOf(reflect.ValueOf(s)).Interface().(api.Script)
}

// handedIn is a module that has of everything, and a script.
func handedIn() (api.Module, api.Script) {
	m := filledModule()
	m.Funcs = append(m.Funcs,
		functionOf(&m, "i>i+ll: block:i{ i.5 get.0 tab.0,1,0 } read write force show i.7 ind.>i get.0 if:i{ more }else{ i.3 } 6a 6a"),
		functionOf(&m, ">: gget.0 i.1 6a gset.0"))
	m.Exports = append(m.Exports, api.Export{Name: "t", Index: 7})
	m.Start = []int{8}
	return m, api.Script{Inputs: []int{4, 5, 6, 7, 8, 9}, Force: []bool{true, false, true, true, false, true}}
}

// checkAsks asks a machine, and a plain one, the same.
func checkAsks(t *testing.T, what string, x *Machine, p *plain) {
	t.Helper()
	for _, n := range []int{0, 2, 1, 0} {
		args := append(make([]int, 0, 3), n)
		want, _ := p.call("t", args, 99)
		got, err := x.Call("t", args, 99)
		if err != api.OK || want.End != api.EndDone {
			t.Fatal(what, err, want)
		}
		checkOutcome(t, what, got, want)
		if args[0] != n || args[:3][1] != 0 || args[:3][2] != 0 {
			t.Errorf("%s: the arguments were changed: %v", what, args[:3])
		}
	}
}

// What is handed in stays as it is, its spare room too.
func TestWhatIsHandedInStays(t *testing.T) {
	m, s := handedIn()
	handed, script := copyOfAll(m, s)
	room := spare(reflect.ValueOf(handed))
	p, _ := plainNew(m, s)
	checkAsks(t, "handed in", checkNew(t, "handed in", handed, script, api.OK), p)
	if !reflect.DeepEqual(handed, copyOf(reflect.ValueOf(m)).Interface()) || !reflect.DeepEqual(room, spare(reflect.ValueOf(handed))) {
		t.Error("the module was changed")
	}
	if !reflect.DeepEqual(script, copyOf(reflect.ValueOf(s)).Interface()) || spare(reflect.ValueOf(script))[0] != 12345 {
		t.Error("the script was changed")
	}
}

// What becomes later of what was handed in changes no machine.
func TestWhatIsHandedInIsWiped(t *testing.T) {
	m, s := handedIn()
	handed, script := copyOfAll(m, s)
	x := checkNew(t, "wiped", handed, script, api.OK)
	wipe(reflect.ValueOf(handed))
	wipe(reflect.ValueOf(script))
	p, _ := plainNew(m, s)
	checkAsks(t, "wiped", x, p)
}
