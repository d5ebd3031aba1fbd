package valid

import (
	"reflect"
	"slices"
	"strconv"
	"strings"
	"testing"

	"athanor/api"
	"athanor/wast"
)

// change is something that makes a rich module wrong: in which order of the promise it is looked at, what it is, and the error. Those of one slot cannot be done both.
type change struct {
	what  string
	order int
	slot  string
	do    func(m *api.Module)
	want  api.Errno
	at    int
}

// The parts of a module, in the order in which they are looked at.
const (
	inCheck = iota
	inTypes
	inImports
	inFuncs
	inTables
	inMems
	inGlobals
	inExports
	inStart
	inElems
	inDatas
	inBodies
)

// changes is each error at each place where it can stand.
func changes() []change {
	return slices.Concat(changesOfShapes(), changesOfLimits(), changesOfGlobals(), changesOfExports(), changesOfStart(), changesOfElems(), changesOfDatas(), changesOfBodies())
}

func changesOfShapes() []change {
	return []change{
		{"too many types", inCheck, "", func(m *api.Module) { m.Types = append(m.Types, make([]api.FuncType, 4096)...) }, api.ErrMany, -1},
		{"no type of a parameter", inCheck, "", func(m *api.Module) { m.Types[2].Params = []int{5} }, api.ErrShape, -1},
		{"no type of a local", inCheck, "", func(m *api.Module) { m.Funcs[2].Locals = []int{128} }, api.ErrShape, -1},
		{"two results", inTypes, "", func(m *api.Module) { m.Types = append(m.Types, funcTypeOf(">ii")) }, api.ErrType, -1},
		{"three results", inTypes, "", func(m *api.Module) { m.Types = append(m.Types, funcTypeOf("i>ili")) }, api.ErrType, -1},
		{"no type of an import", inImports, "", func(m *api.Module) { m.Imports[1].Type = 1000 }, api.ErrIndex, -1},
		{"no type of the first import", inImports, "", func(m *api.Module) { m.Imports[0].Type = 1<<32 - 1 }, api.ErrIndex, -1},
		{"no type of a function", inFuncs, "", func(m *api.Module) { m.Funcs[1].Type = 1000 }, api.ErrIndex, -1},
		{"no type of the last function", inFuncs, "", func(m *api.Module) { m.Funcs[len(m.Funcs)-1].Type = 1<<32 - 1 }, api.ErrIndex, -1},
	}
}

func changesOfLimits() []change {
	return []change{
		{"two tables", inTables, "", func(m *api.Module) { m.Tables = append(m.Tables, api.Limits{}) }, api.ErrMany, -1},
		{"a table's Min above Max", inTables, "", func(m *api.Module) { m.Tables[0] = api.Limits{Min: 2, Max: 1, Has: true} }, api.ErrType, -1},
		{"two memories", inMems, "", func(m *api.Module) { m.Mems = append(m.Mems, api.Limits{}) }, api.ErrMany, -1},
		{"a memory's Min above Max", inMems, "memory", func(m *api.Module) { m.Mems[0] = api.Limits{Min: 2, Max: 1, Has: true} }, api.ErrType, -1},
		{"a memory's Min above 65536", inMems, "memory", func(m *api.Module) { m.Mems[0] = api.Limits{Min: 65537} }, api.ErrType, -1},
		{"a memory's Max above 65536", inMems, "memory", func(m *api.Module) { m.Mems[0] = api.Limits{Max: 65537, Has: true} }, api.ErrType, -1},
	}
}

func changesOfGlobals() []change {
	add := func(g api.Global) func(m *api.Module) {
		return func(m *api.Module) { m.Globals = append(m.Globals, g) }
	}
	return []change{
		{"a global's Init of a global", inGlobals, "", add(api.Global{Type: api.I32, Init: held}), api.ErrConst, -1},
		{"a global's Init of a global, I64", inGlobals, "", add(api.Global{Type: api.I64, Init: held}), api.ErrConst, -1},
		{"a global's Init of another type", inGlobals, "", add(api.Global{Type: api.I64, Init: zero}), api.ErrType, -1},
		{"a global's Init of another type, I32", inGlobals, "", add(api.Global{Type: api.I32, Mut: true, Init: long}), api.ErrType, -1},
	}
}

func changesOfExports() []change {
	add := func(name string, kind, index int) func(m *api.Module) {
		return func(m *api.Module) {
			m.Exports = append(m.Exports, api.Export{Name: name, Kind: kind, Index: index})
		}
	}
	return []change{
		{"an export twice", inExports, "", add("m", api.ExFunc, 0), api.ErrTwice, -1},
		{"an export twice, of nothing", inExports, "", add("f", api.ExFunc, 99), api.ErrTwice, -1},
		{"an export of no function", inExports, "", add("no function", api.ExFunc, 99), api.ErrIndex, -1},
		{"an export of no table", inExports, "", add("no table", api.ExTable, 99), api.ErrIndex, -1},
		{"an export of no memory", inExports, "", add("no memory", api.ExMem, 99), api.ErrIndex, -1},
		{"an export of no global", inExports, "", add("no global", api.ExGlobal, 99), api.ErrIndex, -1},
	}
}

func changesOfStart() []change {
	set := func(n int) func(m *api.Module) { return func(m *api.Module) { m.Start = []int{n} } }
	return []change{
		{"no function to start", inStart, "start", set(99), api.ErrIndex, -1},
		{"a start with Params", inStart, "start", set(4), api.ErrType, -1},
		{"a start with Results", inStart, "start", set(2), api.ErrType, -1},
		{"a start with both", inStart, "start", set(3), api.ErrType, -1},
	}
}

func changesOfElems() []change {
	add := func(offset api.Instr, funcs ...int) func(m *api.Module) {
		return func(m *api.Module) { m.Elems = append(m.Elems, api.Elem{Offset: offset, Funcs: funcs}) }
	}
	return []change{
		{"an Elem's Offset of a global", inElems, "", add(held, 99), api.ErrConst, -1},
		{"an Elem's Offset of I64", inElems, "", add(long, 99), api.ErrType, -1},
		{"an Elem of no function", inElems, "", add(zero, 0, 99, 1), api.ErrIndex, -1},
	}
}

func changesOfDatas() []change {
	add := func(offset api.Instr) func(m *api.Module) {
		return func(m *api.Module) { m.Datas = append(m.Datas, api.Data{Offset: offset}) }
	}
	return []change{
		{"a Data's Offset of a global", inDatas, "", add(held), api.ErrConst, -1},
		{"a Data's Offset of I64", inDatas, "", add(long), api.ErrType, -1},
	}
}

func changesOfBodies() []change {
	set := func(n int, text string) func(m *api.Module) {
		return func(m *api.Module) { m.Funcs[n].Body = instrs(text) }
	}
	return []change{
		{"the first body", inBodies, "first", set(0, "l"), api.ErrType, 2},
		{"the first body, and more in it", inBodies, "first", set(0, "l br.9"), api.ErrIndex, 2},
		{"a body between", inBodies, "between", set(2, "un gset.3 br.9"), api.ErrConst, 4},
		{"the last body", inBodies, "", func(m *api.Module) { m.Funcs[len(m.Funcs)-1].Body = instrs("un br.1 gset.3 l") }, api.ErrIndex, richNumber},
	}
}

// done is a rich module with changes.
func done(list ...change) api.Module {
	m := rich("il>i", "l", "get.0")
	for _, c := range list {
		c.do(&m)
	}
	return m
}

func TestEachErrorAlone(t *testing.T) {
	for _, c := range changes() {
		check(t, c.what, done(c), c.at, c.want)
	}
}

// Of two errors the one is told that is looked at first, whichever was made first; in one part the first entry's.
func TestTwoErrors(t *testing.T) {
	all := changes()
	for i, a := range all {
		for _, b := range all[i+1:] {
			if a.slot != "" && a.slot == b.slot {
				continue
			}
			check(t, a.what+", "+b.what, done(a, b), a.at, a.want)
			if a.order < b.order {
				check(t, b.what+", "+a.what, done(b, a), a.at, a.want)
			}
		}
	}
}

func TestThreeErrors(t *testing.T) {
	all := changes()
	for i, a := range all {
		for j, b := range all[i+1:] {
			for _, c := range all[i+1+j+1:] {
				if m := done(a, b, c); a.slot == "" && (b.slot == "" || b.slot != c.slot) {
					if at, err := Where(m); at != a.at || err != a.want {
						t.Errorf("%s, %s, %s: %d, %v", a.what, b.what, c.what, at, err)
					}
				}
			}
		}
	}
}

// In the part itself the entries come in their order, and each one's errors in the promise's.
func TestOrderWithinAPart(t *testing.T) {
	exports := func(list ...api.Export) api.Module {
		m := rich(">", "", "")
		m.Exports = list
		return m
	}
	globals := func(list ...api.Global) api.Module {
		m := rich(">", "", "")
		m.Exports, m.Globals = nil, list
		return m
	}
	elems := func(list ...api.Elem) api.Module {
		m := rich(">", "", "")
		m.Elems = list
		return m
	}
	datas := func(list ...api.Data) api.Module {
		m := rich(">", "", "")
		m.Datas = list
		return m
	}
	const there, gone = 0, 99
	for what, x := range map[string]struct {
		m    api.Module
		want api.Errno
	}{
		"twice, then gone":             {exports(api.Export{Name: "a"}, api.Export{Name: "a"}, api.Export{Name: "b", Index: gone}), api.ErrTwice},
		"gone, then twice":             {exports(api.Export{Name: "a"}, api.Export{Name: "b", Index: gone}, api.Export{Name: "a"}), api.ErrIndex},
		"gone, and its name again":     {exports(api.Export{Name: "a", Index: gone}, api.Export{Name: "a"}), api.ErrIndex},
		"its name again, and gone":     {exports(api.Export{Name: "a"}, api.Export{Name: "a", Index: gone}), api.ErrTwice},
		"gone, then gone and twice":    {exports(api.Export{Name: "a", Index: gone}, api.Export{Name: "a", Index: gone}), api.ErrIndex},
		"a constant, then a type":      {globals(api.Global{Type: api.I32, Init: held}, api.Global{Type: api.I64, Init: zero}), api.ErrConst},
		"a type, then a constant":      {globals(api.Global{Type: api.I64, Init: zero}, api.Global{Type: api.I32, Init: held}), api.ErrType},
		"an Elem's type, its function": {elems(api.Elem{Offset: long, Funcs: []int{gone}}, api.Elem{Offset: held}), api.ErrType},
		"an Elem's function, a type":   {elems(api.Elem{Offset: zero, Funcs: []int{gone}}, api.Elem{Offset: long}), api.ErrIndex},
		"an Elem's constant, all":      {elems(api.Elem{Offset: held, Funcs: []int{gone}}, api.Elem{Offset: long}), api.ErrConst},
		"an Elem, then a constant":     {elems(api.Elem{Offset: zero, Funcs: []int{there}}, api.Elem{Offset: held}, api.Elem{Offset: long}), api.ErrConst},
		"a Data's type, a constant":    {datas(api.Data{Offset: long}, api.Data{Offset: held}), api.ErrType},
		"a Data's constant, a type":    {datas(api.Data{Offset: zero}, api.Data{Offset: held}, api.Data{Offset: long}), api.ErrConst},
	} {
		check(t, what, x.m, -1, x.want)
	}
}

func TestResults(t *testing.T) {
	for count := range 6 {
		for _, typ := range []string{"i", "l"} {
			m := poor("il>", "", "")
			m.Types = append(m.Types, funcTypeOf("ll>"+strings.Repeat(typ, count)))
			check(t, strconv.Itoa(count)+" of "+typ, m, -1, typed(count <= 1))
		}
	}
	m := api.Module{Types: []api.FuncType{{Results: typesOf("il")}}}
	check(t, "of the first", m, -1, api.ErrType)
	m.Types[0].Results = make([]int, 4097)
	check(t, "too many for Check", m, -1, api.ErrMany)
	m.Types[0].Results = []int{api.I32, 5}
	check(t, "two, of which one may not be written", m, -1, api.ErrShape)
}

func TestTypesOfFunctions(t *testing.T) {
	for count := range 4 {
		for _, n := range []int{0, 1, 2, 3, 4, 1 << 31, 1<<32 - 1} {
			want := api.OK
			if n >= count {
				want = api.ErrIndex
			}
			types := make([]api.FuncType, count)
			check(t, "an import", api.Module{Types: types, Imports: []api.Import{{Type: n}}}, -1, want)
			check(t, "a function", api.Module{Types: types, Funcs: []api.Func{{Type: n, Body: instrs("un")}}}, -1, want)
			if count > 0 {
				check(t, "a second import", api.Module{Types: types, Imports: []api.Import{{}, {Type: n}}, Funcs: []api.Func{{}}}, -1, want)
				check(t, "a second function", api.Module{Types: types, Imports: []api.Import{{}}, Funcs: []api.Func{{}, {Type: n}}}, -1, want)
			}
		}
	}
}

func TestTablesAndMemories(t *testing.T) {
	limits := []api.Limits{
		{}, {Min: 1}, {Has: true}, {Min: 1, Has: true}, {Min: 1, Max: 1, Has: true}, {Min: 2, Max: 1, Has: true}, {Max: 1, Has: true},
		{Min: 65535}, {Min: 65536}, {Min: 65537}, {Min: 1<<32 - 1},
		{Max: 65536, Has: true}, {Max: 65537, Has: true}, {Min: 65536, Max: 65536, Has: true}, {Min: 65537, Max: 65536, Has: true}, {Min: 65536, Max: 65535, Has: true}, {Min: 65537, Max: 65537, Has: true}, {Min: 65536, Max: 65537, Has: true}, {Min: 1<<32 - 1, Max: 1<<32 - 1, Has: true}, {Min: 1<<32 - 2, Max: 1<<32 - 1, Has: true}, {Min: 1<<32 - 1, Max: 1<<32 - 2, Has: true},
	}
	for _, a := range limits {
		ordered := !a.Has || a.Min <= a.Max
		what := strconv.Itoa(a.Min) + " to " + strconv.Itoa(a.Max)
		check(t, "a table of "+what, api.Module{Tables: []api.Limits{a}}, -1, typed(ordered))
		check(t, "a memory of "+what, api.Module{Mems: []api.Limits{a}}, -1, typed(ordered && a.Min <= 65536 && a.Max <= 65536))
		for _, b := range limits {
			check(t, "two tables of "+what, api.Module{Tables: []api.Limits{a, b}}, -1, api.ErrMany)
			check(t, "two memories of "+what, api.Module{Mems: []api.Limits{a, b}}, -1, api.ErrMany)
		}
		for _, b := range limits {
			checkPlain(t, "both of "+what, api.Module{Tables: []api.Limits{a}, Mems: []api.Limits{b}})
			want := typed(ordered)
			if want == api.OK {
				want = api.ErrMany
			}
			check(t, "a table of "+what+", two memories", api.Module{Tables: []api.Limits{a}, Mems: []api.Limits{b, b}}, -1, want)
			check(t, "two tables and a memory of "+what, api.Module{Tables: []api.Limits{b, a}, Mems: []api.Limits{a}}, -1, api.ErrMany)
		}
	}
	check(t, "too many for Check", api.Module{Tables: make([]api.Limits, 4097)}, -1, api.ErrMany)
	check(t, "4096", api.Module{Mems: make([]api.Limits, 4096)}, -1, api.ErrMany)
}

func TestInits(t *testing.T) {
	for _, typ := range []int{api.I32, api.I64} {
		for op, of := range map[int]int{0x41: api.I32, 0x42: api.I64, 0x23: 0} {
			for _, mut := range []bool{false, true} {
				for _, n := range []int{0, 1, -1, 1<<31 - 1} {
					init := api.Instr{Op: op, N: n}
					want := typed(typ == of)
					if of == 0 {
						init, want = api.Instr{Op: op, A: n & 0xff}, api.ErrConst
					}
					g := api.Global{Type: typ, Mut: mut, Init: init}
					check(t, "an Init", api.Module{Globals: []api.Global{g}}, -1, want)
					// A global ahead of it is no constant, either.
					check(t, "a later Init", api.Module{Globals: []api.Global{{Type: typ, Init: constant(typ)}, g}}, -1, want)
				}
			}
		}
	}
}

// constant is a constant of a type.
func constant(typ int) api.Instr {
	if typ == api.I32 {
		return zero
	}
	return long
}

func TestExportsOfEachKind(t *testing.T) {
	for kind, count := range []int{richNumber + 1, 1, 1, 4} {
		for _, index := range []int{0, 1, 3, 4, 5, richNumber, richNumber + 1, 1 << 31, 1<<32 - 1} {
			want := api.OK
			if index >= count {
				want = api.ErrIndex
			}
			m := rich(">", "", "")
			m.Exports = []api.Export{{Name: "a", Kind: kind, Index: index}}
			check(t, "an export", m, -1, want)
			m.Exports = []api.Export{{Name: "b"}, {Name: "a", Kind: kind, Index: index}, {Name: "c"}}
			check(t, "an export between others", m, -1, want)
			check(t, "an export of a module that has nothing", api.Module{Exports: m.Exports[1:2]}, -1, api.ErrIndex)
		}
	}
	// An import is a function that may be exported.
	m := api.Module{Types: make([]api.FuncType, 1), Imports: make([]api.Import, 2), Exports: []api.Export{{Index: 1}}}
	check(t, "an import", m, -1, api.OK)
	m.Exports[0].Index = 2
	check(t, "behind the imports", m, -1, api.ErrIndex)
}

func TestNamesOfExports(t *testing.T) {
	names := []string{"", "a", "A", "b", "aa", "\x00", "a\x00", "\u00e9", "e\u0301", strings.Repeat("a", 64)}
	for kind := range 4 {
		m := rich(">", "", "")
		m.Exports = nil
		for _, name := range names {
			m.Exports = append(m.Exports, api.Export{Name: name, Kind: kind})
		}
		check(t, "many names", m, -1, api.OK)
		for i, name := range names {
			for other := range 4 {
				twice := m
				twice.Exports = slices.Concat(m.Exports, []api.Export{{Name: name, Kind: other}})
				check(t, "the name "+name, twice, -1, api.ErrTwice)
				twice.Exports[len(names)].Index = 99
				check(t, "the name "+name+", of nothing", twice, -1, api.ErrTwice)
				// What is wrong ahead of it goes ahead of it.
				twice.Exports[i].Index = 99
				check(t, "the name "+name+", and nothing ahead", twice, -1, api.ErrIndex)
			}
		}
	}
}

func TestManyExports(t *testing.T) {
	m := rich(">", "", "")
	m.Exports = nil
	for n := range 4096 {
		m.Exports = append(m.Exports, api.Export{Name: strconv.Itoa(n)})
	}
	check(t, "many", m, -1, api.OK)
	for _, n := range []int{0, 1, 2000, 4094} {
		twice := m
		twice.Exports = slices.Clone(m.Exports)
		twice.Exports[4095].Name = strconv.Itoa(n)
		check(t, "many, and one twice", twice, -1, api.ErrTwice)
	}
}

func TestStart(t *testing.T) {
	for n, s := range slices.Concat(richTypes, []string{"ll>i"}) {
		m := rich("ll>i", "", "un")
		m.Start = []int{n}
		check(t, "start of "+s, m, -1, typed(s == ">"))
	}
	for _, n := range []int{richNumber + 1, richNumber + 2, 1 << 31, 1<<32 - 1} {
		m := rich(">", "", "")
		m.Start = []int{n}
		check(t, "start of "+strconv.Itoa(n), m, -1, api.ErrIndex)
	}
	m := rich(">", "", "")
	m.Start = []int{richNumber}
	check(t, "start of the last", m, -1, api.OK)
	m.Start = nil
	check(t, "no start", m, -1, api.OK)
	m.Start = []int{0, 0}
	check(t, "two starts", m, -1, api.ErrMany)
}

func TestElems(t *testing.T) {
	for _, has := range []bool{false, true} {
		for _, offset := range []api.Instr{zero, long, held, {Op: 0x41, N: -1}, {Op: 0x41, N: 1<<31 - 1}, {Op: 0x42, N: -1}, {Op: 0x23, A: 3}} {
			for _, funcs := range [][]int{nil, {0}, {1, 0}, {0, 2, 1}, {2}, {0, 0, 1<<32 - 1}} {
				m := api.Module{Types: make([]api.FuncType, 1), Imports: make([]api.Import, 1), Funcs: make([]api.Func, 1), Elems: []api.Elem{{Offset: offset, Funcs: funcs}}}
				want := api.ErrIndex
				if has {
					m.Tables = make([]api.Limits, 1)
					switch {
					case offset.Op == 0x23:
						want = api.ErrConst
					case offset.Op == 0x42:
						want = api.ErrType
					case slices.ContainsFunc(funcs, func(n int) bool { return n > 1 }):
					default:
						want = api.OK
					}
				}
				// A memory is no table.
				m.Mems = make([]api.Limits, 1)
				check(t, "an Elem", m, -1, want)
			}
		}
	}
}

func TestDatas(t *testing.T) {
	for _, has := range []bool{false, true} {
		for _, offset := range []api.Instr{zero, long, held, {Op: 0x41, N: -1}, {Op: 0x41, N: 1<<31 - 1}, {Op: 0x42, N: -1}, {Op: 0x23, A: 3}} {
			for _, bytes := range []string{"", "a", strings.Repeat("\xff", 70000)} {
				m := api.Module{Datas: []api.Data{{Offset: offset, Bytes: bytes}}, Tables: make([]api.Limits, 1)}
				want := api.ErrIndex
				if has {
					m.Mems = make([]api.Limits, 1)
					want = map[int]api.Errno{0x41: api.OK, 0x42: api.ErrType, 0x23: api.ErrConst}[offset.Op]
				}
				check(t, "a Data", m, -1, want)
			}
		}
	}
}

// Where counts imports, and tells the first body that has an error.
func TestWhere(t *testing.T) {
	for imports := range 4 {
		for wrong := range 16 {
			m := api.Module{Types: []api.FuncType{{}}, Imports: make([]api.Import, imports), Funcs: make([]api.Func, 4)}
			want, err := -1, api.OK
			for n := 3; n >= 0; n-- {
				if wrong>>n&1 == 1 {
					text := []string{"i", "br.1", "drop", "gget.0"}[n]
					m.Funcs[n].Body = instrs("nop " + text)
					want, err = imports+n, []api.Errno{api.ErrType, api.ErrIndex, api.ErrType, api.ErrIndex}[n]
				}
			}
			check(t, "bodies "+strconv.FormatInt(int64(wrong), 2), m, want, err)
			// What is not of a body goes ahead of all bodies.
			m.Start = []int{imports + 4}
			check(t, "a start and bodies", m, -1, api.ErrIndex)
			m.Types[0].Params = []int{0}
			check(t, "a shape and bodies", m, -1, api.ErrShape)
		}
	}
	m := api.Module{Types: []api.FuncType{{}}, Imports: make([]api.Import, 4096), Funcs: make([]api.Func, 4096)}
	check(t, "many", m, -1, api.OK)
	m.Funcs[4095].Body = instrs("i")
	check(t, "the last of many", m, 8191, api.ErrType)
	m.Funcs[4095].Body = instrs("call.8191")
	check(t, "a call of the last of many", m, -1, api.OK)
	m.Funcs[0].Body = instrs("call.8192")
	check(t, "a call beyond the last of many", m, 4096, api.ErrIndex)
}

// The first error of a body is the first from the left, and each instruction's own in the order of the words.
func TestFirstErrorOfABody(t *testing.T) {
	checkBodies(t, ">", "", []asked{
		{"drop br.9", api.ErrType}, {"br.9 drop", api.ErrIndex}, {"un gset.2 br.9 l 6a", api.ErrConst}, {"un l 6a gset.2", api.ErrType}, {"br.9 gset.2", api.ErrIndex},
		{"block{ br.9 } drop", api.ErrIndex}, {"drop block{ br.9 }", api.ErrType}, {"block{ drop } br.9", api.ErrType}, {"block{ i } br.9", api.ErrType}, {"block:i{ } br.9", api.ErrType}, {"block{ block{ gset.3 } br.9 } drop", api.ErrConst},
		{"i if{ gset.3 }else{ br.9 } drop", api.ErrConst}, {"i if{ br.9 }else{ gset.3 } drop", api.ErrIndex}, {"i if{ }else{ gset.3 } br.9", api.ErrConst},
		{"un br.9", api.ErrIndex}, {"un block{ br.9 }", api.ErrIndex}, {"un block{ drop } br.9", api.ErrType},
		// behind what nobody comes to, too
		{"ret br.9", api.ErrIndex}, {"br.0 gset.3", api.ErrConst}, {"i tab.0 call.99", api.ErrIndex}, {"un i", api.ErrType},
	})
}

// more is a module with a function more, of a type, whose body is unreachable.
func more(m api.Module, typ int) api.Module {
	m.Funcs = slices.Concat(m.Funcs, []api.Func{{Type: typ, Body: instrs("un")}})
	return m
}

// checkFunctionMore wants a valid module to stay valid with a function more.
func checkFunctionMore(t *testing.T, m api.Module) {
	t.Helper()
	for typ := range m.Types {
		if with := more(m, typ); wast.Check(with) == api.OK && Validate(with) != api.OK {
			t.Errorf("%v, with a function of type %d more: %v", m, typ, Validate(with))
		}
	}
}

func TestFunctionMore(t *testing.T) {
	checkFunctionMore(t, rich("il>i", "l", "get.0"))
	check(t, "a function more", more(rich(">", "", ""), 3), -1, api.OK)
	m := api.Module{Types: []api.FuncType{{Params: make([]int, 0)}, funcTypeOf("il>l")}}
	for n := range 4096 {
		if n%1000 == 0 {
			check(t, "functions", m, -1, api.OK)
		}
		m = api.Module{Types: m.Types, Funcs: append(m.Funcs, more(api.Module{}, n%2).Funcs...)}
	}
	check(t, "all functions", m, -1, api.OK)
	check(t, "a function that Check does not take", more(m, 0), -1, api.ErrMany)
	check(t, "a function of no type", more(rich(">", "", ""), 99), -1, api.ErrIndex)
	// One that was not valid does not become so.
	check(t, "behind a wrong body", more(rich(">", "", "i"), 0), richNumber, api.ErrType)
}

// withNop is a body with a nop more, at each place where one can be.
func withNop(list []api.Instr) [][]api.Instr {
	nop := api.Instr{Op: 0x01}
	var out [][]api.Instr
	for i := range len(list) + 1 {
		out = append(out, slices.Concat(list[:i], []api.Instr{nop}, list[i:]))
	}
	for i, x := range list {
		if form := wast.Form(x.Op); form != wast.FormBlock && form != wast.FormIf {
			continue
		}
		for _, body := range withNop(x.Body) {
			l := slices.Clone(list)
			l[i].Body = body
			out = append(out, l)
		}
		// Where there was no Else, the nop is one.
		if x.Op == 0x04 {
			for _, body := range withNop(x.Else) {
				l := slices.Clone(list)
				l[i].Else = body
				out = append(out, l)
			}
		}
	}
	return out
}

// checkNopMore wants a valid module to stay valid with a nop more.
func checkNopMore(t *testing.T, m api.Module) {
	t.Helper()
	for n, f := range m.Funcs {
		for _, body := range withNop(f.Body) {
			with := m
			with.Funcs = slices.Clone(m.Funcs)
			with.Funcs[n].Body = body
			if err := Validate(with); err != api.OK && wast.Check(with) == api.OK {
				t.Errorf("function %d of %v, with a nop more: %v", n, with, err)
			}
		}
	}
}

func TestNopMore(t *testing.T) {
	for _, text := range []string{
		"", "un", "i drop", "i l drop drop", "block{ }", "loop{ block{ i br.1 } } ret i drop", "i if{ }", "i if{ un }else{ i drop }", "i if:l{ l }else{ un i drop } drop", "un sel sel drop", "block:i{ i i brif.0 i tab.0,0 } drop", "i l l call.3 drop", "i i 28.2 36.0",
		strings.Repeat("block{ ", 64) + strings.Repeat("} ", 64),
	} {
		m := rich(">", "", text)
		check(t, text, m, -1, api.OK)
		checkNopMore(t, m)
	}
	m := rich(">", "", strings.Repeat("block{ ", 65)+strings.Repeat("} ", 65))
	check(t, "as deep as may be", m, -1, api.OK)
	checkNopMore(t, m)
	body := m.Funcs[len(m.Funcs)-1].Body
	for len(body[0].Body) > 0 {
		body = body[0].Body
	}
	body[0].Body = instrs("nop")
	check(t, "a nop too deep", m, -1, api.ErrDeep)
	m = api.Module{Types: make([]api.FuncType, 1), Funcs: []api.Func{{Body: slices.Repeat(instrs("nop"), 65536)}}}
	check(t, "as many as may be", m, -1, api.OK)
	m.Funcs[0].Body = append(m.Funcs[0].Body, instrs("nop")...)
	check(t, "a nop too many", m, -1, api.ErrMany)
}

// Check goes ahead of everything, whatever it says.
func TestChecksErrors(t *testing.T) {
	deep := "nop"
	for range 65 {
		deep = "block{ " + deep + " }"
	}
	for what, x := range map[string]struct {
		m    api.Module
		want api.Errno
	}{
		"too deep":              {rich(">", "", "drop "+deep), api.ErrDeep},
		"a floating number":     {rich(">", "", "drop 92"), api.ErrShape},
		"no instruction":        {rich(">", "", "drop ff"), api.ErrShape},
		"what it does not have": {rich(">", "", "drop nop.1"), api.ErrShape},
		"a block with Else":     {rich(">", "", "drop block{ }else{ nop }"), api.ErrShape},
		"a number of 33 bits":   {rich(">", "", "call.4294967296"), api.ErrShape},
		"below 0":               {rich(">", "", "br.-1"), api.ErrShape},
		"too many labels":       {rich(">", "", "drop tab."+strings.Repeat("0,", 4097)+"0"), api.ErrMany},
		"a local's type":        {api.Module{Types: make([]api.FuncType, 1), Funcs: []api.Func{{Locals: []int{0}, Body: instrs("drop")}}}, api.ErrShape},
		"too many locals":       {api.Module{Types: make([]api.FuncType, 1), Funcs: []api.Func{{Locals: slices.Repeat([]int{127}, 257), Body: instrs("drop")}}}, api.ErrMany},
		"an index below 0":      {api.Module{Funcs: []api.Func{{Type: -1}}}, api.ErrShape},
		"a start below 0":       {api.Module{Start: []int{-1}}, api.ErrShape},
		"an export's kind":      {api.Module{Exports: []api.Export{{Kind: 4}}}, api.ErrShape},
		"an Offset":             {api.Module{Elems: []api.Elem{{}}}, api.ErrShape},
		"Max without Has":       {api.Module{Mems: []api.Limits{{Max: 1}}}, api.ErrShape},
		"a result of a block":   {api.Module{Types: make([]api.FuncType, 1), Funcs: []api.Func{{Body: []api.Instr{{Op: 0x02, A: 5}}}}}, api.ErrShape},
	} {
		check(t, what, x.m, -1, x.want)
	}
}

// A tree that is in itself has no end; who looks at it has.
func TestTreeInItself(t *testing.T) {
	list := []api.Instr{{Op: 0x02}, {Op: 0x02}}
	list[1].Body = list
	m := api.Module{Types: make([]api.FuncType, 1), Funcs: []api.Func{{Body: list}}}
	check(t, "in itself", m, -1, api.ErrMany)
}

// The greatest modules that Check takes are looked at in no long time.
func TestGreatModules(t *testing.T) {
	wide := api.Module{Types: []api.FuncType{{Params: slices.Repeat([]int{api.I64}, 4096)}}, Funcs: []api.Func{{Body: append(instrs("un"), slices.Repeat(instrs("call.0"), 65535)...)}}}
	if at, err := Where(wide); at != -1 || err != api.OK {
		t.Error("calls that take much:", at, err)
	}
	wide.Funcs[0].Body[1] = zero
	if at, err := Where(wide); at != 0 || err != api.ErrType {
		t.Error("calls that take much, and an I32:", at, err)
	}
	labels := make([]int, 4096)
	tables := api.Module{Types: make([]api.FuncType, 1), Funcs: []api.Func{{Body: append(instrs("un"), slices.Repeat([]api.Instr{{Op: 0x0e, Labels: labels}}, 10000)...)}}}
	if at, err := Where(tables); at != -1 || err != api.OK {
		t.Error("many labels:", at, err)
	}
	high := api.Module{Types: []api.FuncType{{}, {Params: slices.Repeat([]int{api.I32}, 4096)}}, Funcs: []api.Func{{Body: slices.Concat(slices.Repeat(instrs("i"), 32768), slices.Repeat(instrs("drop"), 32768))}}}
	check(t, "a high stack", high, -1, api.OK)
	high.Funcs[0].Body = append(slices.Repeat(instrs("i"), 12*4096), slices.Repeat(instrs("call.1"), 12)...)
	high.Funcs = append(high.Funcs, api.Func{Type: 1})
	check(t, "a high stack, taken at once", high, -1, api.OK)
	high.Funcs[0].Body[12*4096-4097] = long
	check(t, "a high stack, and an I64 in it", high, 0, api.ErrType)
	many := api.Module{Types: []api.FuncType{{Params: slices.Repeat([]int{api.I32}, 4096)}}, Funcs: slices.Repeat([]api.Func{{Locals: slices.Repeat([]int{api.I64}, 256), Body: instrs("get.0 drop get.4351 a7 drop")}}, 4096)}
	if at, err := Where(many); at != -1 || err != api.OK {
		t.Error("many locals:", at, err)
	}
}

// copied is v in new memory, the spare room of lists with it.
func copied(v reflect.Value) reflect.Value {
	out := reflect.New(v.Type()).Elem()
	out.Set(v)
	switch v.Kind() {
	case reflect.Struct:
		for i := range v.NumField() {
			out.Field(i).Set(copied(v.Field(i)))
		}
	case reflect.Slice:
		if v.IsNil() {
			break
		}
		all := v.Slice(0, v.Cap())
		out = reflect.MakeSlice(v.Type(), v.Cap(), v.Cap())
		for i := range v.Cap() {
			out.Index(i).Set(copied(all.Index(i)))
		}
		out = out.Slice(0, v.Len())
	}
	return out
}

// roomy is v in new memory, with spare room behind each list.
func roomy(v reflect.Value) reflect.Value {
	out := copied(v)
	switch v.Kind() {
	case reflect.Struct:
		for i := range v.NumField() {
			out.Field(i).Set(roomy(v.Field(i)))
		}
	case reflect.Slice:
		out = reflect.MakeSlice(v.Type(), v.Len(), v.Len()+3)
		for i := range v.Len() {
			out.Index(i).Set(roomy(v.Index(i)))
		}
	}
	return out
}

// alike tells whether a and b are the same, the spare room of lists with it.
func alike(a, b reflect.Value) bool {
	switch a.Kind() {
	case reflect.Struct:
		for i := range a.NumField() {
			if !alike(a.Field(i), b.Field(i)) {
				return false
			}
		}
		return true
	case reflect.Slice:
		if a.Len() != b.Len() || a.Cap() != b.Cap() {
			return false
		}
		a, b = a.Slice(0, a.Cap()), b.Slice(0, b.Cap())
		for i := range a.Len() {
			if !alike(a.Index(i), b.Index(i)) {
				return false
			}
		}
		return true
	}
	return a.Interface() == b.Interface()
}

func TestArgumentsStay(t *testing.T) {
	list := []api.Module{rich("il>l", "li", "block:i{ i i brif.0 i tab.0,0,0 } drop i l i ind.7 tee.1")}
	for _, c := range changes() {
		list = append(list, done(c))
	}
	for i, m := range list {
		for _, handed := range []reflect.Value{copied(reflect.ValueOf(m)), roomy(reflect.ValueOf(m))} {
			before := copied(handed)
			given := handed.Interface().(api.Module)
			at, err := Where(given)
			again, errAgain := Where(given)
			if at != again || err != errAgain || Validate(given) != err {
				t.Errorf("module %d: %d, %v, and then %d, %v", i, at, err, again, errAgain)
			}
			if !alike(before, handed) {
				t.Errorf("module %d is not as it was", i)
			}
		}
	}
}
