package useful

import (
	"slices"

	"athanor/api"
	"athanor/parse"
	"athanor/scope"
)

// A second reading of the chapter: rows are lists of patterns, written anew for each step, and steps are counted by hand.

// counted asks U, and counts how often it is asked.
type counted struct {
	l     []api.Decl
	steps int
}

func isAny(p api.Pat) bool { return p.Kind == api.PatAny || p.Kind == api.PatVar }

// plainCon finds a constructor and its type.
func plainCon(l []api.Decl, name string) (d api.Decl, fields, tag int, ok bool) {
	for _, d := range l {
		for tag, c := range d.Cons {
			if c.Name == name {
				return d, len(c.Fields), tag, true
			}
		}
	}
	return d, 0, 0, false
}

// ask tells U; it stops early, with a false, where there are too many steps.
func (c *counted) ask(rows [][]api.Pat, row []api.Pat) bool {
	c.steps++
	if c.steps > api.MaxWork {
		return false
	}
	if len(row) == 0 {
		return len(rows) == 0
	}
	if row[0].Kind == api.PatCon {
		return c.askCon(rows, row[0].Name, row[0].Args, row[1:])
	}
	if row[0].Kind == api.PatInt {
		var left [][]api.Pat
		for _, r := range rows {
			if len(r) > 0 && (isAny(r[0]) || r[0].Kind == api.PatInt && r[0].N == row[0].N) {
				left = append(left, r[1:])
			}
		}
		return c.ask(left, row[1:])
	}
	var stand []string
	for _, r := range rows {
		if len(r) > 0 && r[0].Kind == api.PatCon {
			stand = append(stand, r[0].Name)
		}
	}
	if len(stand) > 0 {
		d, _, _, _ := plainCon(c.l, stand[0])
		all := true
		for _, x := range d.Cons {
			all = all && slices.Contains(stand, x.Name)
		}
		if all {
			for _, x := range d.Cons {
				if c.askCon(rows, x.Name, slices.Repeat([]api.Pat{{Kind: api.PatAny}}, len(x.Fields)), row[1:]) {
					return true
				}
			}
			return false
		}
	}
	var left [][]api.Pat
	for _, r := range rows {
		if len(r) > 0 && isAny(r[0]) {
			left = append(left, r[1:])
		}
	}
	return c.ask(left, row[1:])
}

func (c *counted) askCon(rows [][]api.Pat, name string, args, rest []api.Pat) bool {
	var left [][]api.Pat
	for _, r := range rows {
		switch {
		case len(r) == 0:
		case r[0].Kind == api.PatCon && r[0].Name == name:
			left = append(left, slices.Concat(r[0].Args, r[1:]))
		case isAny(r[0]):
			left = append(left, slices.Concat(slices.Repeat([]api.Pat{{Kind: api.PatAny}}, len(args)), r[1:]))
		}
	}
	return c.ask(left, slices.Concat(args, rest))
}

// leveled is a pattern and how deep it is in others.
type leveled struct {
	api.Pat
	deep int
}

// allOf is the patterns and all those in them, the outer ones ahead.
func allOf(pats []api.Pat) []leveled {
	var out []leveled
	for _, p := range pats {
		out = append(out, leveled{p, 1})
	}
	for i := 0; i < len(out); i++ {
		for _, x := range out[i].Args {
			out = append(out, leveled{x, out[i].deep + 1})
		}
	}
	return out
}

// plainFits tells whether all patterns are as they must be.
func plainFits(l []api.Decl, pats []api.Pat) bool {
	all := allOf(pats)
	for _, p := range all {
		_, fields, _, ok := plainCon(l, p.Name)
		if p.Kind < 1 || p.Kind > 4 || p.deep > 256 || p.Kind == 4 && (!ok || fields != len(p.Args)) {
			return false
		}
	}
	return len(all) <= 2048
}

func plainUseful(l []api.Decl, rows [][]api.Pat, row []api.Pat) (bool, api.Errno) {
	for _, r := range rows {
		if len(r) != len(row) {
			return false, api.ErrArg
		}
	}
	if !plainFits(l, slices.Concat(append(slices.Clone(rows), row)...)) {
		return false, api.ErrArg
	}
	return plainAsk(l, rows, row)
}

func plainAsk(l []api.Decl, rows [][]api.Pat, row []api.Pat) (bool, api.Errno) {
	c := &counted{l: l}
	more := c.ask(rows, row)
	if c.steps > api.MaxWork {
		return false, api.ErrMany
	}
	return more, api.OK
}

// each is patterns side by side, as rows of one.
func each(pats []api.Pat) [][]api.Pat {
	var out [][]api.Pat
	for _, p := range pats {
		out = append(out, []api.Pat{p})
	}
	return out
}

func plainExhaustive(l []api.Decl, rows []api.Pat) (bool, api.Errno) {
	if !plainFits(l, rows) {
		return false, api.ErrArg
	}
	more, err := plainAsk(l, each(rows), []api.Pat{{Kind: api.PatAny}})
	return err == api.OK && !more, err
}

func plainIdle(l []api.Decl, rows []api.Pat) ([]int, api.Errno) {
	if !plainFits(l, rows) {
		return nil, api.ErrArg
	}
	var out []int
	for i := range rows {
		more, err := plainAsk(l, each(rows[:i]), rows[i:i+1])
		if err != api.OK {
			return nil, err
		}
		if !more {
			out = append(out, i)
		}
	}
	return out, api.OK
}

func plainMeets(l []api.Decl, p api.Pat, v api.Val) bool {
	if isAny(p) {
		return true
	}
	if p.Kind == api.PatInt {
		return v.Int && p.N == v.N
	}
	_, _, tag, ok := plainCon(l, p.Name)
	if p.Kind != api.PatCon || !ok || v.Int || tag != v.N || len(p.Args) != len(v.Args) {
		return false
	}
	for i := range p.Args {
		if !plainMeets(l, p.Args[i], v.Args[i]) {
			return false
		}
	}
	return true
}

// three is the types of every program, as a program would declare them.
var three = mustRead("type unit = Unit; type bool = False | True; type list 'a = Nil | Cons 'a (list 'a); 1").Decls

func plainCheck(p api.Program) api.Fault {
	if fault := scope.Check(p); fault != (api.Fault{}) {
		return fault
	}
	all := slices.Concat(three, p.Decls)
	for open := []api.Expr{p.Main}; len(open) > 0; {
		e := open[0]
		open = slices.Concat(e.Args, open[1:])
		if e.Kind != api.ExCase {
			continue
		}
		if ok, err := plainExhaustive(all, e.Pats); err != api.OK {
			return api.Fault{Code: err, At: e.At}
		} else if !ok {
			return api.Fault{Code: api.ErrMatch, At: e.At}
		}
	}
	return api.Fault{}
}

func mustRead(s string) api.Program {
	p, at, err := parse.Parse(s)
	if err != api.OK {
		panic(s[:at] + "@" + s[at:])
	}
	return p
}
