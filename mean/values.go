package mean

import (
	"athanor/api"
	"athanor/ints"
)

// value is an integer, a constructor with values, or a function. Which of them it is stands nowhere, for it is never asked: the program has a type.
type value struct {
	n    int   // the integer, or the constructor's tag
	more *more // nil, where there is nothing else
}

// more is what is not a number in a value: a constructor's args, or a function's expression (an ExFun, or an ExRec) and what was bound around it.
type more struct {
	args   []value
	fun    *api.Expr
	around *bound
}

// made is a constructor with values, which it keeps.
func made(tag int, args ...value) value {
	if len(args) == 0 {
		return value{n: tag}
	}
	return value{tag, &more{args: args}}
}

// bound is a name that is bound, and those that were bound ahead of it.
type bound struct {
	name  string
	value value
	ahead *bound
}

// with is what is bound, and one more.
func (b *bound) with(name string, v value) *bound {
	return &bound{name, v, b}
}

// find is what a name is bound to: of several alike the last holds.
func (b *bound) find(name string) value {
	for ; b != nil; b = b.ahead {
		if b.name == name {
			return b.value
		}
	}
	return value{}
}

// input is the list of the numbers, each wrapped.
func (r *run) input(numbers []int) value {
	list := made(r.tags["Nil"])
	for i := len(numbers) - 1; i >= 0; i-- {
		list = made(r.tags["Cons"], value{n: ints.Wrap(numbers[i])}, list)
	}
	return list
}

// shows puts what a value shows behind other numbers; false, if there are too many. No function is shown: infer takes no program whose result may hold one.
func shows(v value, l []int) ([]int, bool) {
	if len(l) == api.MaxTrace {
		return nil, false
	}
	l = append(l, v.n)
	if v.more == nil {
		return l, true
	}
	for _, arg := range v.more.args {
		var ok bool
		if l, ok = shows(arg, l); !ok {
			return nil, false
		}
	}
	return l, true
}
