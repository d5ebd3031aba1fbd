package scope

import (
	"strings"

	"athanor/api"
)

// finder gathers the names that are not bound.
type finder struct {
	bound, found names
	free         []string
}

func (f *finder) expr(e api.Expr) {
	if e.Kind == api.ExVar && !f.bound.has(e.Name) && !f.found.has(e.Name) {
		f.found.bind(e.Name)
		f.free = append(f.free, strings.Clone(e.Name))
	}
	for i, part := range e.Args {
		inPart := binds(e, i)
		f.bound.bind(inPart...)
		f.expr(part)
		f.bound.leave(inPart...)
	}
}

// checker looks for the first fault from the left in an expression that has the form of its kind.
type checker struct {
	declared
	bound names
}

func (c *checker) expr(e api.Expr) api.Fault {
	unbound := e.Kind == api.ExVar && !c.bound.has(e.Name)
	if unbound || e.Kind == api.ExCon && !c.conFits(e.Name, len(e.Args)) {
		return api.Fault{Code: api.ErrScope, At: e.At}
	}
	for i, part := range e.Args {
		if fault := c.ahead(e, i); fault.Code != api.OK {
			return fault
		}
		inPart := binds(e, i)
		c.bound.bind(inPart...)
		fault := c.expr(part)
		c.bound.leave(inPart...)
		if fault.Code != api.OK {
			return fault
		}
	}
	return api.Fault{}
}

// ahead looks at the pattern that stands ahead of an expression's part i, if there is one.
func (c *checker) ahead(e api.Expr, i int) api.Fault {
	if e.Kind != api.ExCase || i == 0 {
		return api.Fault{}
	}
	return c.pat(e.Pats[i-1], names{})
}

// pat looks at a pattern; stood are the names that stood ahead of it in its branch's pattern.
func (c *checker) pat(p api.Pat, stood names) api.Fault {
	again := p.Kind == api.PatVar && stood.has(p.Name)
	if again || p.Kind == api.PatCon && !c.conFits(p.Name, len(p.Args)) {
		return api.Fault{Code: api.ErrScope, At: p.At}
	}
	if p.Kind == api.PatVar {
		stood.bind(p.Name)
	}
	for _, part := range p.Args {
		if fault := c.pat(part, stood); fault.Code != api.OK {
			return fault
		}
	}
	return api.Fault{}
}
