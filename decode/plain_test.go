package decode

import (
	"math/big"
	"strings"

	"athanor/api"
)

// This file holds the chapter's words once more: bytes are read by a reader that notes what is wrong first and reads nothing from there on, and modules are written in any of the ways that may be read.

// plain is what is left to be read, and what was wrong first.
type plain struct {
	left   string
	err    api.Errno
	instrs *int
}

func plainDecode(s string) (api.Module, api.Errno) {
	if len(s) > 262144 {
		return api.Module{}, api.ErrLong
	}
	var m api.Module
	p := &plain{left: s, instrs: new(int)}
	for _, b := range []byte("\x00asm\x01\x00\x00\x00") {
		p.only(int(b))
	}
	p.module(&m)
	if p.err != api.OK {
		return api.Module{}, p.err
	}
	return m, api.OK
}

func plainExpr(s string, at int) ([]api.Instr, int, api.Errno) {
	if len(s) > 262144 {
		return nil, 0, api.ErrLong
	}
	if at < 0 || at > len(s) {
		return nil, 0, api.ErrArg
	}
	p := &plain{left: s[at:], instrs: new(int)}
	l := p.expr()
	if p.err != api.OK {
		return nil, 0, p.err
	}
	return l, len(s) - len(p.left), api.OK
}

// wrong notes an error, if there was none.
func (p *plain) wrong(is bool, err api.Errno) {
	if is && p.err == api.OK {
		p.err, p.left = err, ""
	}
}

func (p *plain) bytes(count int) string {
	if p.wrong(count > len(p.left), api.ErrByte); p.err != api.OK {
		return ""
	}
	s := p.left[:count]
	p.left = p.left[count:]
	return s
}

// byte is -1 where there is none.
func (p *plain) byte() int {
	if s := p.bytes(1); s != "" {
		return int(s[0])
	}
	return -1
}

func (p *plain) only(b int) { p.wrong(p.byte() != b, api.ErrByte) }

func (p *plain) upTo(most int) int {
	b := p.byte()
	p.wrong(b > most, api.ErrByte)
	return b
}

// number is the groups of a number of that many bits, reckoned with numbers of any size.
func (p *plain) number(bits int, signed bool) int {
	sum, groups := new(big.Int), uint(0)
	for p.err == api.OK {
		p.wrong(int(groups)*7 >= bits, api.ErrByte)
		b := int64(p.byte())
		sum.Add(sum, new(big.Int).Lsh(big.NewInt(b&127), groups*7))
		groups++
		if b < 128 {
			if signed && b >= 64 {
				sum.Sub(sum, new(big.Int).Lsh(big.NewInt(1), groups*7))
			}
			break
		}
	}
	least, most := new(big.Int), new(big.Int).Lsh(big.NewInt(1), uint(bits))
	if signed {
		most.Rsh(most, 1)
		least.Neg(most)
	}
	p.wrong(sum.Cmp(least) < 0 || sum.Cmp(most) >= 0, api.ErrByte)
	if p.err != api.OK {
		return 0
	}
	return int(sum.Int64())
}

func (p *plain) u() int { return p.number(32, false) }

func (p *plain) count() int {
	n := p.u()
	if p.wrong(n > 4096, api.ErrMany); p.err != api.OK {
		return 0
	}
	return n
}

func plainList[T any](p *plain, one func() T) []T {
	var out []T
	for n := p.count(); n > 0 && p.err == api.OK; n-- {
		out = append(out, one())
	}
	return out
}

// sized reads a piece that has a reader of its own, and says how long it is.
func (p *plain) sized(read func(in *plain)) {
	size := p.u()
	in := &plain{left: p.left[:min(size, len(p.left))], err: p.err, instrs: p.instrs}
	read(in)
	p.wrong(in.err != api.OK, in.err)
	p.wrong(in.left != "", api.ErrByte)
	p.bytes(size)
}

func (p *plain) name(most int) string {
	s := p.bytes(p.u())
	p.wrong(len(s) > most || strings.ToValidUTF8(s, "") != s, api.ErrByte)
	return s
}

func (p *plain) typ() int {
	b := p.byte()
	p.wrong(b == 0x7c || b == 0x7d, api.ErrFloat)
	p.wrong(b != 0x7e && b != 0x7f, api.ErrByte)
	return b
}

func (p *plain) limits() (l api.Limits) {
	switch p.upTo(1) {
	case 0:
		l.Min = p.u()
	case 1:
		l.Min, l.Has = p.u(), true
		l.Max = p.u()
	}
	return l
}

// kind is what stands behind an instruction's byte: a letter each.
func kind(op int) string {
	switch {
	case op < 0, op == 0x05, op == 0x0b:
		return "none"
	case op <= 0x01, op == 0x0f, op == 0x1a, op == 0x1b:
		return ""
	case op <= 0x03:
		return "b"
	case op == 0x04:
		return "i"
	case op == 0x0c, op == 0x0d, op == 0x10, 0x20 <= op && op <= 0x24:
		return "u"
	case op == 0x0e:
		return "lu"
	case op == 0x11:
		return "uz"
	case op < 0x28:
		return "none"
	case op == 0x2a, op == 0x2b, op == 0x38, op == 0x39, op == 0x43, op == 0x44:
		return "float"
	case op <= 0x3e:
		return "uv"
	case op <= 0x40:
		return "z"
	case op == 0x41:
		return "s"
	case op == 0x42:
		return "S"
	case op <= 0x5a:
		return ""
	case op <= 0x66:
		return "float"
	case op <= 0x8a, op == 0xa7, op == 0xac, op == 0xad:
		return ""
	case op <= 0xbf:
		return "float"
	}
	return "none"
}

func (p *plain) constant() api.Instr {
	op := p.byte()
	p.wrong(kind(op) == "float", api.ErrFloat)
	p.wrong(op != 0x23 && op != 0x41 && op != 0x42, api.ErrByte)
	x := api.Instr{Op: op}
	if p.err == api.OK {
		p.behind(&x)
	}
	p.only(0x0b)
	return x
}

func (p *plain) behind(x *api.Instr) {
	for _, letter := range kind(x.Op) {
		switch letter {
		case 'b', 'i':
			if p.left != "" && p.left[0] == 0x40 {
				p.byte()
			} else {
				x.A = p.typ()
			}
		case 'u':
			x.A = p.u()
		case 'v':
			x.B = p.u()
		case 'l':
			x.Labels = plainList(p, p.u)
		case 'z':
			p.only(0)
		case 's':
			x.N = p.number(32, true)
		case 'S':
			x.N = p.number(64, true)
		}
	}
}

// open is a block that has not come to its end, and the list in it that is being filled.
type open struct {
	x       api.Instr
	in      []api.Instr
	hasElse bool
}

// expr has the blocks that are open on a stack; the lowest is the expression itself.
func (p *plain) expr() []api.Instr {
	stack := []open{{}}
	for p.err == api.OK {
		top := &stack[len(stack)-1]
		op := p.byte()
		what := kind(op)
		switch {
		case op == 0x0b && len(stack) == 1:
			return top.in
		case op == 0x0b:
			if top.hasElse {
				top.x.Else = top.in
			} else {
				top.x.Body = top.in
			}
			below := &stack[len(stack)-2]
			below.in = append(below.in, top.x)
			stack = stack[:len(stack)-1]
			continue
		case op == 0x05 && top.x.Op == 0x04 && !top.hasElse:
			top.x.Body, top.in, top.hasElse = top.in, nil, true
			continue
		}
		p.wrong(what == "none", api.ErrByte)
		p.wrong(what == "float", api.ErrFloat)
		*p.instrs++
		p.wrong(*p.instrs > 65536, api.ErrMany)
		p.wrong(len(stack) > 65, api.ErrDeep)
		if p.err != api.OK {
			return nil
		}
		x := api.Instr{Op: op}
		if p.behind(&x); what == "b" || what == "i" {
			stack = append(stack, open{x: x})
		} else {
			top.in = append(top.in, x)
		}
	}
	return nil
}

func (p *plain) module(m *api.Module) {
	last, codes := 0, 0
	for p.left != "" {
		id := p.upTo(11)
		p.wrong(id != 0 && id <= last, api.ErrByte)
		last = max(last, id)
		p.sized(func(in *plain) {
			if id == 0 {
				in.name(1 << 30)
				in.left = ""
			} else if id == 10 {
				codes = in.codes(m)
			} else {
				in.section(id, m)
			}
		})
	}
	p.wrong(codes != len(m.Funcs), api.ErrByte)
}

func (p *plain) codes(m *api.Module) int {
	n := p.count()
	p.wrong(n != len(m.Funcs), api.ErrByte)
	for i := 0; i < n && p.err == api.OK; i++ {
		p.sized(func(in *plain) {
			sum, l := 0, []int(nil)
			for runs := in.count(); runs > 0 && in.err == api.OK; runs-- {
				n := in.u()
				sum += n
				if in.wrong(sum > 256, api.ErrMany); in.err == api.OK {
					l = append(l, many(in.typ(), n)...)
				}
			}
			m.Funcs[i].Locals, m.Funcs[i].Body = l, in.expr()
		})
	}
	return n
}

func (p *plain) section(id int, m *api.Module) {
	switch id {
	case 1:
		m.Types = plainList(p, func() api.FuncType {
			p.only(0x60)
			return api.FuncType{Params: plainList(p, p.typ), Results: plainList(p, p.typ)}
		})
	case 2:
		m.Imports = plainList(p, func() api.Import {
			x := api.Import{Module: p.name(64), Name: p.name(64)}
			p.only(0)
			x.Type = p.u()
			return x
		})
	case 3:
		m.Funcs = plainList(p, func() api.Func { return api.Func{Type: p.u()} })
	case 4:
		m.Tables = plainList(p, func() api.Limits {
			p.only(0x70)
			return p.limits()
		})
	case 5:
		m.Mems = plainList(p, p.limits)
	case 6:
		m.Globals = plainList(p, func() api.Global { return api.Global{Type: p.typ(), Mut: p.upTo(1) == 1, Init: p.constant()} })
	case 7:
		m.Exports = plainList(p, func() api.Export { return api.Export{Name: p.name(64), Kind: p.upTo(3), Index: p.u()} })
	case 8:
		m.Start = []int{p.u()}
	case 9:
		m.Elems = plainList(p, func() api.Elem {
			p.only(0)
			return api.Elem{Offset: p.constant(), Funcs: plainList(p, p.u)}
		})
	case 11:
		m.Datas = plainList(p, func() api.Data {
			p.only(0)
			return api.Data{Offset: p.constant(), Bytes: p.bytes(p.u())}
		})
	}
}
