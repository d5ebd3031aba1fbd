package useful

import (
	"slices"
	"sync/atomic"

	"athanor/api"
)

// asker asks one question, and those that come of it.
type asker struct {
	*known
	stood map[string]int64 // the step in which a constructor stood first in a row last
	steps atomic.Int64
}

// ask tells whether a row meets values that none of the rows meets.
func (k *known) ask(rows []*columns, row *columns) (bool, api.Errno) {
	a := &asker{known: k, stood: map[string]int64{}}
	more := a.useful(rows, row)
	if a.steps.Load() > api.MaxWork {
		return false, api.ErrMany
	}
	return more, api.OK
}

func (a *asker) useful(rows []*columns, row *columns) bool {
	if a.steps.Add(1) > api.MaxWork {
		// A true ends all that is still to be asked.
		return true
	}
	if row == nil {
		return len(rows) == 0
	}
	switch first := row.first(); first.Kind {
	case api.PatCon:
		return a.turned(asCon(first.Name, len(first.Args)), rows, row)
	case api.PatInt:
		return a.turned(asInt(first.N), rows, row)
	}
	cons := a.whole(rows)
	if len(cons) == 0 {
		return a.turned(asAny(), rows, row)
	}
	return slices.ContainsFunc(cons, func(c api.Con) bool {
		return a.turned(asCon(c.Name, len(c.Fields)), rows, row)
	})
}

// turned asks of what the rows and the row become. In types that nobody checked a constructor's name may stand twice, with unlike numbers of fields: a row may have no column left then while others have, and is left out.
func (a *asker) turned(one turn, rows []*columns, row *columns) bool {
	left := make([]*columns, 0, len(rows))
	for _, r := range rows {
		if l, ok := one(r); ok {
			left = append(left, l)
		}
	}
	row, _ = one(row)
	return a.useful(left, row)
}

// whole tells the constructors of the type that the first constructor of the rows is of, if all of them stand first in rows; else none.
func (a *asker) whole(rows []*columns) []api.Con {
	step := a.steps.Load()
	var of kin
	for _, row := range rows {
		first := row.first()
		if first.Kind != api.PatCon {
			continue
		}
		if len(of.cons) == 0 {
			of = a.kinOf(first.Name)
		}
		a.stood[first.Name] = step
	}
	for _, name := range of.names {
		if a.stood[name] != step {
			return nil
		}
	}
	return of.cons
}
