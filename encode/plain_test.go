package encode

import (
	"strings"

	"athanor/api"
)

// This file holds the chapter's words once more, both ways: a module's bytes put together from texts, and a module read back from them.

// plainU is the groups of seven bits of n, as the digits of n to the base 128 from the last on.
func plainU(n int) string {
	out := ""
	for ; n >= 128; n /= 128 {
		out += string([]byte{byte(128 + n%128)})
	}
	return out + string([]byte{byte(n)})
}

// plainS is the fewest groups that n fits in with its sign.
func plainS(n int) string {
	count := 1
	for count < 10 && (n < -1<<(7*count-1) || n >= 1<<(7*count-1)) {
		count++
	}
	out := make([]byte, count)
	for i := range out {
		out[i] = byte(n>>(7*i))&127 | 128
	}
	out[count-1] &= 127
	return string(out)
}

func plainByte(n int) string { return string([]byte{byte(n)}) }

func plainText(s string) string { return plainU(len(s)) + s }

func plainList[T any](l []T, each func(T) string) string {
	var out strings.Builder
	out.WriteString(plainU(len(l)))
	for _, x := range l {
		out.WriteString(each(x))
	}
	return out.String()
}

func plainLimits(l api.Limits) string {
	if l.Has {
		return "\x01" + plainU(l.Min) + plainU(l.Max)
	}
	return "\x00" + plainU(l.Min)
}

func plainExpr(l ...api.Instr) string { return plainInstrs(l) + "\x0b" }

func plainInstrs(l []api.Instr) string {
	var out strings.Builder
	for _, x := range l {
		out.WriteString(plainByte(x.Op) + plainBehind(x))
	}
	return out.String()
}

// plainBehind is what stands behind an instruction's byte.
func plainBehind(x api.Instr) string {
	switch op := x.Op; {
	case op == 0x02, op == 0x03:
		return plainResult(x.A) + plainInstrs(x.Body) + "\x0b"
	case op == 0x04 && len(x.Else) == 0:
		return plainResult(x.A) + plainInstrs(x.Body) + "\x0b"
	case op == 0x04:
		return plainResult(x.A) + plainInstrs(x.Body) + "\x05" + plainInstrs(x.Else) + "\x0b"
	case op == 0x0c, op == 0x0d, op == 0x10, 0x20 <= op && op <= 0x24:
		return plainU(x.A)
	case op == 0x0e:
		return plainList(x.Labels, plainU) + plainU(x.A)
	case op == 0x11:
		return plainU(x.A) + "\x00"
	case 0x28 <= op && op <= 0x3e:
		return plainU(x.A) + plainU(x.B)
	case op == 0x3f, op == 0x40:
		return "\x00"
	case op == 0x41, op == 0x42:
		return plainS(x.N)
	}
	return ""
}

func plainResult(a int) string {
	return map[int]string{0: "\x40", 126: "\x7e", 127: "\x7f"}[a]
}

func plainLocals(types []int) string {
	runs, count := "", 0
	for len(types) > 0 {
		n := 1
		for n < len(types) && types[n] == types[0] {
			n++
		}
		runs += plainU(n) + plainByte(types[0])
		count++
		types = types[n:]
	}
	return plainU(count) + runs
}

// plainSection is a section of entries that are written by each.
func plainSection[T any](id string, l []T, each func(T) string) string {
	if len(l) == 0 {
		return ""
	}
	return id + plainText(plainList(l, each))
}

func plainModule(m api.Module) string {
	start := ""
	if len(m.Start) > 0 {
		start = "\x08" + plainText(plainU(m.Start[0]))
	}
	return "\x00\x61\x73\x6d\x01\x00\x00\x00" +
		plainSection("\x01", m.Types, func(x api.FuncType) string {
			return "\x60" + plainList(x.Params, plainByte) + plainList(x.Results, plainByte)
		}) +
		plainSection("\x02", m.Imports, func(x api.Import) string {
			return plainText(x.Module) + plainText(x.Name) + "\x00" + plainU(x.Type)
		}) +
		plainSection("\x03", m.Funcs, func(x api.Func) string { return plainU(x.Type) }) +
		plainSection("\x04", m.Tables, func(x api.Limits) string { return "\x70" + plainLimits(x) }) +
		plainSection("\x05", m.Mems, plainLimits) +
		plainSection("\x06", m.Globals, func(x api.Global) string {
			return plainByte(x.Type) + map[bool]string{false: "\x00", true: "\x01"}[x.Mut] + plainExpr(x.Init)
		}) +
		plainSection("\x07", m.Exports, func(x api.Export) string {
			return plainText(x.Name) + plainByte(x.Kind) + plainU(x.Index)
		}) +
		start +
		plainSection("\x09", m.Elems, func(x api.Elem) string {
			return "\x00" + plainExpr(x.Offset) + plainList(x.Funcs, plainU)
		}) +
		plainSection("\x0a", m.Funcs, func(x api.Func) string { return plainText(plainLocals(x.Locals) + plainExpr(x.Body...)) }) +
		plainSection("\x0b", m.Datas, func(x api.Data) string {
			return "\x00" + plainExpr(x.Offset) + plainText(x.Bytes)
		})
}

// reader takes apart bytes that are known to be right; where they are not, it panics or goes astray.
type reader struct{ s string }

func readModule(s string) api.Module {
	var m api.Module
	r := &reader{s}
	r.take(8)
	for r.s != "" {
		id := r.byte()
		in := &reader{r.text()}
		in.section(id, &m)
		if in.s != "" {
			panic("bytes are left in a section")
		}
	}
	return m
}

func (r *reader) take(count int) string {
	s := r.s[:count]
	r.s = r.s[count:]
	return s
}

func (r *reader) byte() int    { return int(r.take(1)[0]) }
func (r *reader) text() string { return r.take(r.u()) }

func (r *reader) u() int {
	if b := r.byte(); b < 128 {
		return b
	} else {
		return b - 128 + 128*r.u()
	}
}

func (r *reader) signed() int {
	b := r.byte()
	if b < 128 {
		return (b ^ 64) - 64
	}
	return b - 128 + r.signed()<<7
}

func readList[T any](r *reader, each func() T) []T {
	out := make([]T, r.u())
	for i := range out {
		out[i] = each()
	}
	return out
}

func (r *reader) limits() api.Limits {
	l := api.Limits{Has: r.byte() == 1, Min: r.u()}
	if l.Has {
		l.Max = r.u()
	}
	return l
}

func (r *reader) constant() api.Instr {
	l, end := r.instrs()
	if len(l) != 1 || end != 0x0b {
		panic("no constant")
	}
	return l[0]
}

// instrs reads up to the byte that ends them, and tells it.
func (r *reader) instrs() (l []api.Instr, end int) {
	for {
		x := api.Instr{Op: r.byte()}
		if x.Op == 0x0b || x.Op == 0x05 {
			return l, x.Op
		}
		r.behind(&x)
		l = append(l, x)
	}
}

func (r *reader) behind(x *api.Instr) {
	switch op := x.Op; {
	case op == 0x02, op == 0x03, op == 0x04:
		x.A = map[int]int{0x40: 0, 0x7e: 126, 0x7f: 127}[r.byte()]
		end := 0
		if x.Body, end = r.instrs(); end == 0x05 {
			x.Else, _ = r.instrs()
		}
	case op == 0x0c, op == 0x0d, op == 0x10, op == 0x11, 0x20 <= op && op <= 0x24:
		x.A = r.u()
		if op == 0x11 {
			r.byte()
		}
	case op == 0x0e:
		x.Labels = readList(r, r.u)
		x.A = r.u()
	case 0x28 <= op && op <= 0x3e:
		x.A = r.u()
		x.B = r.u()
	case op == 0x3f, op == 0x40:
		r.byte()
	case op == 0x41, op == 0x42:
		x.N = r.signed()
	}
}

func (r *reader) section(id int, m *api.Module) {
	switch id {
	case 1:
		m.Types = readList(r, func() api.FuncType {
			r.byte()
			return api.FuncType{Params: readList(r, r.byte), Results: readList(r, r.byte)}
		})
	case 2:
		m.Imports = readList(r, func() api.Import {
			x := api.Import{Module: r.text(), Name: r.text()}
			r.byte()
			x.Type = r.u()
			return x
		})
	case 3:
		m.Funcs = readList(r, func() api.Func { return api.Func{Type: r.u()} })
	case 4:
		m.Tables = readList(r, func() api.Limits {
			r.byte()
			return r.limits()
		})
	case 5:
		m.Mems = readList(r, r.limits)
	case 6:
		m.Globals = readList(r, func() api.Global {
			return api.Global{Type: r.byte(), Mut: r.byte() == 1, Init: r.constant()}
		})
	case 7:
		m.Exports = readList(r, func() api.Export { return api.Export{Name: r.text(), Kind: r.byte(), Index: r.u()} })
	case 8:
		m.Start = []int{r.u()}
	case 9:
		m.Elems = readList(r, func() api.Elem {
			r.byte()
			return api.Elem{Offset: r.constant(), Funcs: readList(r, r.u)}
		})
	case 10:
		for i := range r.u() {
			in := &reader{r.text()}
			for range in.u() {
				count, typ := in.u(), in.byte()
				m.Funcs[i].Locals = append(m.Funcs[i].Locals, many(typ, count)...)
			}
			m.Funcs[i].Body, _ = in.instrs()
		}
	case 11:
		m.Datas = readList(r, func() api.Data {
			r.byte()
			return api.Data{Offset: r.constant(), Bytes: r.text()}
		})
	}
}
