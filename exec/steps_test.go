package exec

import (
	"maps"
	"math"
	"slices"
	"strconv"
	"strings"
	"testing"

	"athanor/api"
	"athanor/nums"
)

// This file is about what each instruction does, and how many steps it is (P8.2).

// checkTexts wants the outcome of each body, as that of a function of this type.
func checkTexts(t *testing.T, typ string, args []int, texts map[string]api.Outcome) {
	t.Helper()
	for text, want := range texts {
		check(t, text, build(typ+": "+text), api.Script{}, args, 10000, want)
	}
}

// edges are values about which reckonings differ.
var edges = []int{0, 1, -1, 2, 7, -7, 31, 32, 33, 63, 64, 255, math.MaxInt32, math.MinInt32, math.MaxUint32, math.MaxInt64, math.MinInt64, 0x123456789abcdef0}

// Each instruction of chapter 2 takes its values in their order, and leaves those below them.
func TestReckoning(t *testing.T) {
	letters := map[int]string{api.I32: "i", api.I64: "l"}
	count := 0
	for op := range 256 {
		params, result, ok := nums.Sig(op)
		if !ok {
			continue
		}
		count++
		byByte := strconv.FormatInt(int64(op), 16)
		typ := strings.Repeat(letters[params[0]], len(params)) + ">" + letters[result]
		gets := "get.0 "
		if len(params) == 2 {
			gets += "get.1 "
		}
		x := checkNew(t, byByte, bare(typ+": "+gets+byByte, typ+": l.99 "+gets+byByte+" ret"), api.Script{}, api.OK)
		for _, a := range edges {
			for _, b := range edges {
				var want api.Outcome
				v, trap, ok := nums.Binary(op, nums.Value(a, params[0]), nums.Value(b, params[0]))
				if !ok {
					v, _ = nums.Unary(op, nums.Value(a, params[0]))
				}
				want = done(len(params)+1, nums.Signed(v, result))
				if trap != 0 {
					want = trapped(trap, len(params)+1)
				}
				args := []int{a, b}[:len(params)]
				got, _ := x.Call("f", args, 99)
				checkOutcome(t, byByte, got, want)
				want.Steps++
				if trap == 0 {
					want.Steps++
				}
				got, _ = x.Call("g", args, 99)
				checkOutcome(t, byByte+" above another value", got, want)
			}
		}
	}
	if count != 61 {
		t.Error("instructions:", count)
	}
}

// Some of them as numbers, without asking nums.
func TestReckoningByNumbers(t *testing.T) {
	checkTexts(t, ">i", nil, map[string]api.Outcome{
		"i.7 i.3 6b": done(3, 4), "i.-7 i.2 6d": done(3, -3), "i.-7 i.2 6f": done(3, -1), "i.-1 i.2 6e": done(3, math.MaxInt32), "i.-1 i.16 70": done(3, 15),
		"i.1 i.3 74": done(3, 8), "i.-8 i.1 75": done(3, -4), "i.-8 i.1 76": done(3, 0x7ffffffc), "i.1 i.1 78": done(3, math.MinInt32),
		"i.1 i.2 48": done(3, 1), "i.2 i.1 48": done(3, 0), "i.-1 i.1 48": done(3, 1), "i.-1 i.1 49": done(3, 0), "l.1 l.2 53": done(3, 1), "l.0 50": done(2, 1),
		"i.1 i.0 6d": trapped(api.TrapDivide, 3), "i.1 i.0 6e": trapped(api.TrapDivide, 3), "i.1 i.0 6f": trapped(api.TrapDivide, 3), "i.1 i.0 70": trapped(api.TrapDivide, 3),
		"i.-2147483648 i.-1 6d": trapped(api.TrapOver, 3), "i.-2147483648 i.-1 6f": done(3, 0), "l.4294967297 a7": done(2, 1),
	})
	checkTexts(t, ">l", nil, map[string]api.Outcome{
		"l.7 l.3 7d": done(3, 4), "l.-7 l.2 7f": done(3, -3), "l.-1 l.2 80": done(3, math.MaxInt64), "i.-1 ac": done(2, -1), "i.-1 ad": done(2, math.MaxUint32),
		"l.1 l.0 7f": trapped(api.TrapDivide, 3), "l.1 l.0 82": trapped(api.TrapDivide, 3), "l.-9223372036854775808 l.-1 7f": trapped(api.TrapOver, 3), "l.-9223372036854775808 l.-1 81": done(3, 0),
	})
}

func TestConstants(t *testing.T) {
	for _, n := range []int{0, 1, -1, math.MaxInt32, math.MinInt32} {
		check(t, "an I32", bare(">i: i."+strconv.Itoa(n)), api.Script{}, nil, 1, done(1, n))
		check(t, "an I32, without sign", bare(">l: i."+strconv.Itoa(n)+" ad"), api.Script{}, nil, 2, done(2, int(uint32(n))))
	}
	for _, n := range []int{0, 1, -1, math.MaxInt32 + 1, math.MaxInt64, math.MinInt64} {
		check(t, "an I64", bare(">l: l."+strconv.Itoa(n)), api.Script{}, nil, 1, done(1, n))
	}
}

func TestPlainInstructions(t *testing.T) {
	checkTexts(t, ">i", nil, map[string]api.Outcome{
		"un": trapped(api.TrapStop, 1), "nop nop i.3": done(3, 3), "i.3 un": trapped(api.TrapStop, 2), "i.3 i.4 drop": done(3, 3), "i.3 l.4 drop": done(3, 3), "i.3 l.4 drop nop": done(4, 3),
		"i.5 i.8 i.0 sel": done(4, 8), "i.5 i.8 i.1 sel": done(4, 5), "i.5 i.8 i.-1 sel": done(4, 5), "i.5 i.8 i.-2147483648 sel": done(4, 5), "i.5 i.8 i.256 sel": done(4, 5), "i.1 i.5 i.8 i.0 sel 6a": done(6, 9),
		"l.5 l.8 i.0 sel a7": done(5, 8), "l.5 l.8 i.9 sel a7": done(5, 5), "l.1 l.4294967296 i.0 sel l.32 88 a7": done(7, 1),
	})
}

// Locals: Params first, and Locals, which are 0 as each call begins; each call has its own.
func TestLocals(t *testing.T) {
	for text, want := range map[string]api.Outcome{
		"get.0": done(1, 40), "get.2": done(1, 0), "get.3 a7": done(2, 0), "get.1 a7": done(2, 50),
		"i.7 set.0 get.0": done(3, 7), "i.7 tee.0": done(2, 7), "i.7 tee.0 drop get.0": done(4, 7), "i.7 tee.2 get.2 6a": done(4, 14), "l.-1 tee.3 a7 get.0 6a": done(5, 39),
		"i.7 set.2 l.8 set.3 get.0 get.1 a7 get.2 get.3 a7 6a 6a 6a": done(13, 105), "get.0 i.1 set.0": done(3, 40), "get.0 i.1 set.0 get.0 6b": done(5, 39), "i.1 i.2 set.0 get.0 6b": done(5, -1),
	} {
		m := build("il>i+il: "+text, "il>i+il: "+text)
		check(t, text, m, api.Script{}, []int{40, 50}, 99, want)
		// The callee's are not the caller's.
		m = build("il>i+il: i.1 set.2 l.2 set.3 i.40 l.50 call.g get.0 get.1 a7 get.2 get.3 a7 6a 6a 6a i.1000 6c 6a", "il>i+il: "+text)
		want.Results = []int{want.Results[0] + 1000*(3+4+1+2)}
		want.Steps += 7 + 12
		check(t, "called: "+text, m, api.Script{}, []int{3, 4}, 99, want)
	}
	check(t, "the last of many", build("i>l+"+strings.Repeat("l", 256)+": l.5 set.256 get.256 get.255 7c"), api.Script{}, []int{1}, 99, done(5, 5))
	check(t, "again 0", build("i>i+i: get.1 i.9 set.1 get.0 45 brif.0 drop i.0 call.f", ">: nop"), api.Script{}, []int{1}, 99, done(9+6, 0))
}

func TestGlobalsInBodies(t *testing.T) {
	checkTexts(t, ">i", nil, map[string]api.Outcome{
		"gget.0": done(1, -5), "gget.1 a7": done(2, 7), "gget.2": done(1, 11), "gget.3 l.40 87 a7": done(4, -1),
		"i.3 gset.0 gget.0": done(3, 3), "gget.0 i.3 gset.0": done(3, -5), "l.4294967301 gset.1 gget.1 a7": done(4, 5), "i.-1 gset.0 gget.0 gget.2 6a": done(5, 10),
	})
	m := build(">i: call.g call.g call.g gget.0", ">: gget.0 i.1 6a gset.0")
	c := check(t, "calls", m, api.Script{}, nil, 99, done(16, -2))
	checkOutcome(t, "calls again", c.call(t, "calls", "f", nil, 99), done(16, 1))
}

func TestBlocks(t *testing.T) {
	checkTexts(t, "i>i", []int{5}, map[string]api.Outcome{
		"block{ } i.1":                                                           done(2, 1),
		"loop{ } i.1":                                                            done(2, 1),
		"block:i{ i.1 }":                                                         done(2, 1),
		"loop:i{ i.1 }":                                                          done(2, 1),
		"block:i{ i.1 br.0 }":                                                    done(3, 1),
		"block:i{ i.1 i.2 i.3 br.0 }":                                            done(5, 3),
		"i.9 block:i{ l.1 i.2 br.0 } 6a":                                         done(6, 11),
		"i.9 block{ i.1 i.2 br.0 un }":                                           done(5, 9),
		"i.9 block{ i.1 br.0 } block{ br.0 nop }":                                done(6, 9),
		"block:i{ block:l{ i.1 br.1 } a7 }":                                      done(4, 1),
		"block:i{ l.3 block:l{ i.1 l.2 br.0 } 7c a7 }":                           done(8, 5),
		"block:i{ i.7 block{ i.8 loop{ i.9 i.1 br.2 } un } }":                    done(8, 1),
		"block{ block{ br.0 } i.1 ret } un":                                      done(5, 1),
		"block{ block{ br.1 } un } i.1":                                          done(4, 1),
		"loop:i{ block:i{ i.1 br.0 } }":                                          done(4, 1),
		"loop:i{ loop:i{ i.1 } }":                                                done(3, 1),
		"block:l{ loop:l{ l.1 l.2 br.1 } } a7":                                   done(6, 2),
		"loop{ get.0 i.1 6b tee.0 brif.0 } get.0":                                done(1+5*5+1, 0),
		"i.9 loop{ i.8 get.0 i.1 6b tee.0 brif.0 drop } ":                        done(2+5*6+1, 9),
		"i.9 loop{ i.8 get.0 i.1 6b tee.0 brif.0 drop } i.1 6a":                  done(2+5*6+1+2, 10),
		"i.9 loop{ i.8 l.7 get.0 i.1 6b tee.0 brif.0 drop drop }":                done(2+5*7+2, 9),
		"block{ loop{ get.0 45 brif.1 get.0 i.1 6b set.0 br.0 } } get.0":         done(2+5*8+3+1, 0),
		"loop:i{ get.0 i.1 6b tee.0 if:i{ br.1 }else{ i.3 } }":                   done(1+4*6+6, 3),
		"block{ loop{ loop{ get.0 i.1 6b tee.0 brif.0 } br.1 } } i.3":            done(2+1+5*5+1+1, 3),
		"loop{ loop{ get.0 i.1 6b tee.0 brif.1 } } i.3":                          done(1+5*6+1, 3),
		strings.Repeat("block:i{ ", 64) + "i.1 br.63" + strings.Repeat(" }", 64): done(66, 1),
	})
}

func TestIfs(t *testing.T) {
	for n, yes := range map[int]int{0: 0, 1: 1, -1: 1, 2: 1, 256: 1, 1 << 31: 1, 1 << 32: 0} {
		no := 1 - yes
		checkTexts(t, "i>i", []int{n}, map[string]api.Outcome{
			"get.0 if:i{ i.1 }else{ i.0 }":                                                  done(3, yes),
			"get.0 if:i{ i.8 i.1 br.0 }else{ i.0 }":                                         done(3+2*yes, yes),
			"get.0 if:i{ i.1 }else{ i.8 l.9 i.0 br.0 }":                                     done(3+3*no, yes),
			"i.5 get.0 if:i{ i.1 }else{ i.0 } 6a":                                           done(5, 5+yes),
			"i.5 get.0 if{ i.1 set.0 }else{ i.0 set.0 } drop get.0":                         done(7, yes),
			"get.0 if{ i.1 ret } i.0":                                                       done(3+yes, yes),
			"get.0 if{ }else{ i.0 ret } i.1":                                                done(3+no, yes),
			"get.0 if{ nop nop br.0 nop } i.4":                                              done(3+3*yes, 4),
			"block:i{ i.7 get.0 if{ i.1 br.1 } drop i.0 }":                                  done(4+2*yes+2*no, yes),
			"i.6 block{ get.0 if{ i.4 i.5 br.1 }else{ br.0 } i.3 drop } i.1 get.0 45 6b 6a": done(4+3*yes+3*no+5, 6+yes),
			"get.0 if:i{ get.0 45 if:i{ un }else{ i.1 br.1 } }else{ loop:i{ i.0 br.1 } }":   done(2+5*yes+3*no, yes),
		})
		brif := "i.1 get.0 brif.0 drop i.0"
		check(t, brif, build("i>i: "+brif), api.Script{}, []int{n}, 99, done(3+2*no, yes))
	}
}

// A br_table goes to the label that the value counts, without sign, and beyond them to the last.
func TestBranchTables(t *testing.T) {
	open := "block{ block{ block{ block{ get.0 tab."
	shut := " } i.10 ret } i.11 ret } i.12 ret } i.13"
	// The steps behind the br_table, by the block that it goes out of.
	behind := []int{2, 2, 2, 1}
	for _, labels := range [][]int{{0}, {3}, {0, 1}, {0, 1, 2, 3}, {3, 2, 1, 0}, {2, 2, 2, 2, 1}, {1, 1, 1, 0, 3}, slices.Repeat([]int{0, 1, 2, 3}, 1024)} {
		var list []string
		for _, n := range labels {
			list = append(list, strconv.Itoa(n))
		}
		last := len(labels) - 1
		for _, n := range []int{0, 1, 2, 3, 4, 5, last - 1, last, last + 1, 4096, -1, math.MinInt32, math.MaxInt32, 1 << 32, 1<<32 + 1} {
			to := labels[last]
			if v := int(uint32(n)); v < last {
				to = labels[v]
			}
			text := open + strings.Join(list, ",") + shut
			check(t, "a br_table", build("i>i: "+text), api.Script{}, []int{n}, 99, done(6+behind[to], 10+to))
		}
	}
	// It takes its label's value along, and drops those below.
	text := "block:i{ block:i{ block:i{ i.1 l.2 i.6 get.0 tab.2,1,0,3 } i.60 6a } i.40 6a }"
	for n, want := range map[int]api.Outcome{0: done(8, 6), 1: done(10, 46), 2: done(12, 106), 3: done(8, 6), 4: done(8, 6), -1: done(8, 6)} {
		check(t, text, build("i>i: "+text), api.Script{}, []int{n}, 99, want)
	}
	// To a loop's label it takes nothing along.
	text = "block{ loop{ i.1 i.2 get.0 i.1 6b tee.0 tab.1,0 } } i.9 ret"
	for n := 1; n < 6; n++ {
		check(t, text, build("i>i: "+text), api.Script{}, []int{n}, 99, done(2+7*n+2, 9))
	}
}

func TestCalls(t *testing.T) {
	for text, want := range map[string]api.Outcome{
		"i.1 l.2 i.3 call.g":                        done(4+10, 123),
		"i.5000 i.1 l.2 i.3 call.g 6a":              done(6+10, 5123),
		"i.9 i.1 i.8 l.2 drop l.3 i.4 call.g 6a 6b": done(10+10, 9-1-834),
		"i.1 l.2 i.3 call.g i.4 l.5 i.6 call.g 6b":  done(9+20, 123-456),
		"call.h":                                  done(2, 70),
		"call.h call.h call.h 6b 6b":              done(8, 70),
		"call.i call.i i.1":                       done(5, 1),
		"i.1 call.i i.2 call.i 6a":                done(7, 3),
		"block:i{ call.h br.0 }":                  done(4, 70),
		"i.7 call.j i.8 call.j 6a":                done(5+8, -15),
		"i.3 write i.4 show call.h write i.-1":    {End: api.EndDone, Results: []int{-1}, Writes: []int{3, 70}, Shows: []int{4}, Steps: 8},
		"read write more show force show read":    {End: api.EndDone, Results: []int{22}, Writes: []int{21}, Shows: []int{1, 0}, Read: 2, Asked: 1, Steps: 7},
		"i.2 i.1 l.2 i.3 call.g write read write": {End: api.EndDone, Results: []int{2}, Writes: []int{123, 21}, Read: 1, Steps: 8 + 10},
		"i.2 l.9 read read more sel write drop":   {End: api.EndDone, Results: []int{2}, Writes: []int{22}, Read: 2, Steps: 8},
		"call.k i.1":                              trapped(api.TrapStop, 2),
		"i.8 write call.k i.1":                    {End: api.EndTrap, Trap: api.TrapStop, Writes: []int{8}, Steps: 4},
	} {
		m := build(">i: "+text, "ili>i: get.0 i.10 6c get.1 a7 6a i.10 6c get.2 6a", ">i: i.70", ">: nop", "i>i: get.0 i.-1 6c ret", ">: un")
		check(t, text, m, api.Script{Inputs: []int{21, 22}}, nil, 99, want)
	}
}

// At the places 0 to 6 of the table: a function each of these types, and two of the host's; 7 is empty.
func TestIndirectCalls(t *testing.T) {
	m := build("i>i: get.0 ind.>i", "i>: get.0 ind.>", "i>l: i.3 l.4 get.0 ind.il>l", "i>i: i.8 get.0 ind.i>i", "i>: i.8 get.0 ind.i>",
		">i: i.70", ">: nop", "il>l: get.0 ad get.1 7d", "i>i: get.0 i.1 6a", "li>l: get.0")
	m.Elems = []api.Elem{{Offset: number32(0), Funcs: []int{10, 11, 12, 13, 14, 0, 2}}}
	for name, fits := range map[string]map[int]api.Outcome{
		"f": {0: done(3, 70), 5: {End: api.EndDone, Results: []int{7}, Read: 1, Steps: 2}},
		"g": {1: done(3)},
		"h": {2: done(4+4, -1)},
		"i": {3: done(3+3, 9)},
		"j": {6: {End: api.EndDone, Writes: []int{8}, Steps: 3}},
	} {
		steps := map[string]int{"f": 2, "g": 2, "h": 4, "i": 3, "j": 3}[name]
		for _, n := range []int{0, 1, 2, 3, 4, 5, 6, 7, 8, 9, 4096, -1, math.MinInt32, math.MaxInt32, 1 << 32, 1<<32 + 3} {
			at := int(uint32(n))
			want, ok := fits[at]
			switch {
			case ok:
			case at > 7:
				want = trapped(api.TrapTable, steps)
			case at == 7:
				want = trapped(api.TrapEmpty, steps)
			default:
				want = trapped(api.TrapType, steps)
			}
			c, _ := newPair(t, name, m, api.Script{Inputs: []int{7, 8}})
			checkOutcome(t, name+" "+strconv.Itoa(n), c.call(t, name, name, []int{n}, 99), want)
		}
	}
}

// A type is alike with another that has the same Params and Results, whichever of them stands first.
func TestIndirectCallsOfTypesAlike(t *testing.T) {
	types := []string{">", ">i", ">l", "i>", "l>", "i>i", "i>l", "l>i", "ii>i", "il>i", "li>i", "ii>", "iii>i"}
	for _, a := range types {
		for _, b := range types {
			m := build(">: un", a+": un")
			params, _, _ := strings.Cut(b, ">")
			// The type stands there once more, behind the callee's own.
			m.Types = append(m.Types, funcTypeOf(b))
			body := instrs(&m, strings.Join(strings.Split(params, ""), " ")+" i.0")
			m.Funcs[0].Body = append(body, api.Instr{Op: 0x11, A: len(m.Types) - 1}, api.Instr{Op: 0x00})
			m.Elems = []api.Elem{{Offset: number32(0), Funcs: []int{ownFirst + 1}}}
			want := trapped(api.TrapType, len(params)+2)
			if a == b {
				want = trapped(api.TrapStop, len(params)+3)
			}
			check(t, a+" as "+b, m, api.Script{}, nil, 99, want)
		}
	}
}

// A table of no places has none.
func TestIndirectCallsOfNoPlaces(t *testing.T) {
	m := build("i>: get.0 ind.>")
	m.Tables[0] = api.Limits{Max: 5, Has: true}
	for _, n := range []int{0, 1, 4, -1} {
		check(t, "no places", m, api.Script{}, []int{n}, 9, trapped(api.TrapTable, 2))
	}
}

// loads are what each load makes of the bytes 81 92 a3 b4 c5 d6 e7 f8, and of 71 62 53 44 35 26 17 08.
var loads = map[string][2]int{
	"28": {-0x4b5c6d7f, 0x44536271}, "29": {-0x0718293a4b5c6d7f, 0x0817263544536271},
	"2c": {-0x7f, 0x71}, "2d": {0x81, 0x71}, "2e": {-0x6d7f, 0x6271}, "2f": {0x9281, 0x6271},
	"30": {-0x7f, 0x71}, "31": {0x81, 0x71}, "32": {-0x6d7f, 0x6271}, "33": {0x9281, 0x6271}, "34": {-0x4b5c6d7f, 0x44536271}, "35": {0xb4a39281, 0x44536271},
}

// stores are how many bytes each store writes.
var stores = map[string]int{"36": 4, "37": 8, "3a": 1, "3b": 2, "3c": 1, "3d": 2, "3e": 4}

// letterOf is the type of what a load tells, or a store takes.
func letterOf(name string) string {
	if slices.Contains([]string{"28", "2c", "2d", "2e", "2f", "36", "3a", "3b"}, name) {
		return "i"
	}
	return "l"
}

// sizeOf is how many bytes a load reads.
func sizeOf(name string) int {
	return map[string]int{"28": 4, "29": 8, "2c": 1, "2d": 1, "2e": 2, "2f": 2, "30": 1, "31": 1, "32": 2, "33": 2, "34": 4, "35": 4}[name]
}

func TestLoads(t *testing.T) {
	if len(loads) != 12 || len(stores) != 7 {
		t.Fatal(len(loads), len(stores))
	}
	for name, values := range loads {
		for n, bytes := range []string{"\x81\x92\xa3\xb4\xc5\xd6\xe7\xf8", "\x71\x62\x53\x44\x35\x26\x17\x08"} {
			for _, b := range []int{0, 1, 7, 40} {
				m := build("i>"+letterOf(name)+": get.0 "+name+"."+strconv.Itoa(b), "i>l: l.9 get.0 "+name+"."+strconv.Itoa(b)+" drop")
				m.Datas = []api.Data{{Offset: number32(40), Bytes: bytes}}
				c := check(t, name, m, api.Script{}, []int{40 - b}, 9, done(2, values[n]))
				checkOutcome(t, name, c.call(t, name, "g", []int{40 - b}, 9), done(4, 9))
			}
		}
	}
}

// The bits of an I32 that a load tells are its lower 32 alone.
func TestLoadsWithSignAsI64(t *testing.T) {
	for name, want := range map[string]int{"28": 0xb4a39281, "2c": 0xffffff81, "2d": 0x81, "2e": 0xffff9281, "2f": 0x9281} {
		m := build(">l: i.40 " + name + " ad")
		m.Datas = []api.Data{{Offset: number32(40), Bytes: "\x81\x92\xa3\xb4\xc5\xd6\xe7\xf8"}}
		check(t, name, m, api.Script{}, nil, 9, done(3, want))
	}
}

// Loads and stores at the memory's last place, and one beyond; at places that are more than 32 bits have.
func TestLoadsAndStoresAtTheEnd(t *testing.T) {
	sizes := maps.Clone(stores)
	for name := range loads {
		sizes[name] = sizeOf(name)
	}
	for name, size := range sizes {
		_, isLoad := loads[name]
		value, drop := " "+letterOf(name)+".-1 ", ""
		if isLoad {
			value, drop = " ", " drop"
		}
		for _, c := range []struct {
			at, b int
			there bool
		}{
			{65536 - size, 0, true}, {65536 - size + 1, 0, false}, {0, 65536 - size, true}, {0, 65536 - size + 1, false}, {65535 - size, 1, true}, {65536 - size, 1, false}, {65536, 0, false}, {0, 65536, false},
			{-1, 1, false}, {-1, 0, false}, {-1, 2, false}, {-8, 16, false}, {-8, 8, false}, {-65536, 65536, false}, {1, math.MaxUint32, false}, {16, math.MaxUint32 - 7, false}, {-1, math.MaxUint32, false}, {0, math.MaxUint32, false}, {math.MinInt32, 1 << 31, false}, {math.MinInt32, 0, false}, {math.MaxInt32, math.MaxUint32, false},
		} {
			m := build("i>: get.0" + value + name + "." + strconv.Itoa(c.b) + drop)
			m.Datas = []api.Data{{Offset: number32(0), Bytes: strings.Repeat("xyzw", 8)}, {Offset: number32(65504), Bytes: strings.Repeat("xyzw", 8)}}
			want := trapped(api.TrapBounds, 2)
			if c.there {
				want = done(2)
			}
			if !isLoad || c.there {
				want.Steps++ // the value, or the drop
			}
			check(t, name+" at "+strconv.Itoa(c.at)+" and "+strconv.Itoa(c.b), m, api.Script{}, []int{c.at}, 9, want)
		}
	}
}

// A store writes its bytes, the lowest first, and none beside them.
func TestStores(t *testing.T) {
	const all = "\x81\x92\xa3\xb4\xc5\xd6\xe7\xf8"
	for name, size := range stores {
		for _, b := range []int{0, 3} {
			m := build("i"+letterOf(name)+">: get.0 get.1 "+name+"."+strconv.Itoa(b), ">: i.65530 l.0 37.0")
			m.Datas = []api.Data{{Offset: number32(0), Bytes: strings.Repeat("-", 24)}}
			c := check(t, name, m, api.Script{}, []int{8 - b, -0x0718293a4b5c6d7f}, 9, done(3))
			got, _ := c.x.Memory().Text(0, 24)
			if want := strings.Repeat("-", 8) + all[:size] + strings.Repeat("-", 16-size); got != want {
				t.Errorf("%s: %q, want %q", name, got, want)
			}
		}
	}
}

// The alignment that an access tells changes nothing.
func TestAlignment(t *testing.T) {
	for _, a := range []int{0, 1, 2} {
		m := build("i>i: get.0 28.3")
		m.Funcs[0].Body[1].A = a
		m.Datas = []api.Data{{Offset: number32(0), Bytes: "\x00\x00\x00\x00\x05\x06\x07\x08\x09"}}
		check(t, "aligned", m, api.Script{}, []int{1}, 9, done(2, 0x08070605))
		check(t, "not aligned", m, api.Script{}, []int{2}, 9, done(2, 0x09080706))
	}
}

func TestSizeAndGrowth(t *testing.T) {
	checkTexts(t, ">i", nil, map[string]api.Outcome{
		"size": done(1, 1), "i.0 grow": done(2, 1), "i.0 grow size 6a": done(4, 2), "i.1 grow": done(2, 1), "i.1 grow drop size": done(4, 2), "i.2 grow drop size": done(4, 3), "i.2 grow i.1 grow 6a": done(5, 0), "i.1 grow drop i.1 grow": done(5, 2),
		"i.3 grow": done(2, -1), "i.3 grow drop size": done(4, 1), "i.-1 grow": done(2, -1), "i.-2147483648 grow": done(2, -1), "i.65536 grow": done(2, -1), "i.2147483647 grow": done(2, -1),
		"i.65536 28.0": trapped(api.TrapBounds, 2), "i.1 grow drop i.65536 28.0": done(5, 0), "i.1 grow drop i.131068 28.0": done(5, 0), "i.1 grow drop i.131069 28.0": trapped(api.TrapBounds, 5), "i.0 grow drop i.65536 28.0": trapped(api.TrapBounds, 5), "i.9 grow drop i.65536 28.0": trapped(api.TrapBounds, 5),
		"i.65532 i.77 36.0 i.1 grow i.65532 28.0 6a": done(8, 78), "i.65535 l.-1 37.0 size": trapped(api.TrapBounds, 3),
	})
	// Without a Max, or with one that is greater, there are at most MaxPages.
	for _, l := range []api.Limits{{Min: 1}, {Min: 1, Max: 33, Has: true}, {Min: 1, Max: 65536, Has: true}} {
		m := build("i>i: get.0 grow", ">i: size")
		m.Mems[0] = l
		c := check(t, "growth", m, api.Script{}, []int{32}, 9, done(2, -1))
		checkOutcome(t, "growth", c.call(t, "growth", "f", []int{31}, 9), done(2, 1))
		checkOutcome(t, "growth", c.call(t, "growth", "f", []int{1}, 9), done(2, -1))
		checkOutcome(t, "growth", c.call(t, "growth", "f", []int{0}, 9), done(2, 32))
		checkOutcome(t, "growth", c.call(t, "growth", "g", nil, 9), done(1, 32))
	}
	m := build("i>i: get.0 grow")
	m.Mems[0] = api.Limits{}
	c := check(t, "no page", m, api.Script{}, []int{1}, 9, done(2, 0))
	checkOutcome(t, "a page", c.call(t, "a page", "f", []int{1}, 9), done(2, 1))
}

// An I32 is below 2^32, wherever it comes from: an offset does not bring it round to the memory's first byte.
func TestPlacesBelowZero(t *testing.T) {
	for _, text := range []string{"i.-1", "get.0", "get.1", "gget.0", "i.8 2c.0", "i.8 2e.0", "i.8 28.0", "i.99 grow", "read", "i.0 i.1 6b", "l.-1 a7", "i.7 i.-1 i.0 sel", "call.g", "i.-1 call.h", "block:i{ i.-1 br.0 }", "i.-1 tee.1"} {
		m := build("i>i+i: get.0 set.1 "+text+" 28.1", ">i: i.-1", "i>i: get.0")
		m.Datas = []api.Data{{Offset: number32(8), Bytes: "\xff\xff\xff\xff"}}
		c, err := newPair(t, text, m, api.Script{Inputs: []int{-1}})
		if err != api.OK {
			t.Fatal(text, err)
		}
		c.x.SetGlobal(0, -1)
		c.p.globals[0] = 1<<32 - 1
		if o := c.call(t, text, "f", []int{-1}, 99); o.End != api.EndTrap || o.Trap != api.TrapBounds {
			t.Errorf("%s: %+v", text, o)
		}
	}
}

// A trap leaves what was done ahead of it, and a store that traps changes nothing.
func TestWhatStays(t *testing.T) {
	m := build("i>: i.8 i.5 36.0 i.6 gset.0 i.1 write i.2 show read drop force drop i.1 grow drop get.0 l.-1 37.0 i.9 i.9 36.0", ">i: i.8 28.0 gget.0 6a size 6a")
	c := check(t, "a trap", m, api.Script{Inputs: []int{3}}, []int{131065}, 99, api.Outcome{End: api.EndTrap, Trap: api.TrapBounds, Writes: []int{1}, Shows: []int{2}, Read: 1, Asked: 1, Steps: 19})
	o := c.call(t, "behind", "g", nil, 99)
	checkOutcome(t, "behind", o, api.Outcome{End: api.EndDone, Results: []int{13}, Writes: []int{1}, Shows: []int{2}, Read: 1, Asked: 1, Steps: 6})
	c.checkMemory(t, "behind")
}
