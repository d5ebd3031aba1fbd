package useful

import "athanor/api"

// columns is what is left of a row: patterns, or so many that meet any, and what stands behind them. A row without columns is nil. The patterns are those that were handed in: rows are only ever looked at.
type columns struct {
	pats []api.Pat
	anys int
	rest *columns
}

// behind puts patterns ahead of what stands behind them.
func behind(pats []api.Pat, rest *columns) *columns {
	if len(pats) == 0 {
		return rest
	}
	return &columns{pats: pats, rest: rest}
}

// anys puts so many patterns that meet any ahead of what stands behind them.
func anys(n int, rest *columns) *columns {
	if n == 0 {
		return rest
	}
	return &columns{anys: n, rest: rest}
}

// column is each pattern as a row of its own.
func column(pats []api.Pat) []*columns {
	var rows []*columns
	for i := range pats {
		rows = append(rows, behind(pats[i:i+1], nil))
	}
	return rows
}

// first is the first column's pattern; of no Kind, if there is no column.
func (c *columns) first() api.Pat {
	switch {
	case c == nil:
		return api.Pat{}
	case c.anys > 0:
		return api.Pat{Kind: api.PatAny}
	}
	return c.pats[0]
}

// others is all columns but the first.
func (c *columns) others() *columns {
	if c.anys > 0 {
		return anys(c.anys-1, c.rest)
	}
	return behind(c.pats[1:], c.rest)
}

// turn tells what a row becomes, by its first; false, if it is left out.
type turn func(row *columns) (*columns, bool)

// asAny keeps the rows whose first meets any.
func asAny() turn {
	return asOne(func(api.Pat) ([]api.Pat, bool) { return nil, false }, 0)
}

// asInt keeps the rows whose first meets an integer.
func asInt(n int) turn {
	return asOne(func(p api.Pat) ([]api.Pat, bool) { return nil, p.Kind == api.PatInt && p.N == n }, 0)
}

// asCon keeps the rows whose first meets what a constructor makes of so many parts, and puts these ahead.
func asCon(name string, parts int) turn {
	return asOne(func(p api.Pat) ([]api.Pat, bool) { return p.Args, p.Kind == api.PatCon && p.Name == name }, parts)
}

// asOne keeps the rows whose first has parts, as the closure tells, or meets any, also as so many parts.
func asOne(partsOf func(api.Pat) ([]api.Pat, bool), parts int) turn {
	return func(row *columns) (*columns, bool) {
		first := row.first()
		if first.Kind == api.PatAny || first.Kind == api.PatVar {
			return anys(parts, row.others()), true
		}
		if args, ok := partsOf(first); ok {
			return behind(args, row.others()), true
		}
		return nil, false
	}
}
