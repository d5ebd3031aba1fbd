package valid

import (
	"slices"
	"strconv"
	"strings"
	"testing"

	"athanor/api"
	"athanor/nums"
	"athanor/wast"
)

// check wants an error, and the function that it is of, by Where, by Validate and by the plain look.
func check(t *testing.T, what string, m api.Module, at int, want api.Errno) {
	t.Helper()
	if n, err := Where(m); n != at || err != want {
		t.Errorf("%s: %d, %v, want %d, %v", what, n, err, at, want)
	}
	if err := Validate(m); err != want {
		t.Errorf("%s, validated: %v, want %v", what, err, want)
	}
	if n, err := plainWhere(m); n != at || err != want {
		t.Errorf("%s, looked at plainly: %d, %v, want %d, %v", what, n, err, at, want)
	}
}

// checkPlain wants what the plain look tells.
func checkPlain(t *testing.T, what string, m api.Module) api.Errno {
	t.Helper()
	at, want := plainWhere(m)
	n, err := Where(m)
	if n != at || err != want || Validate(m) != want {
		t.Errorf("%s: %d, %v, want %d, %v", what, n, err, at, want)
	}
	return want
}

// checkBody wants an error of the last function of a rich module.
func checkBody(t *testing.T, typ, locals, text string, want api.Errno) {
	t.Helper()
	at := richNumber
	if want == api.OK {
		at = -1
	}
	check(t, typ+": "+text, rich(typ, locals, text), at, want)
}

func TestExamples(t *testing.T) {
	for text, want := range map[string]api.Errno{
		"i": api.OK, "l": api.ErrType, "un": api.OK, "un l": api.ErrType, "un drop i": api.OK, "br.0": api.ErrType, "br.1": api.ErrIndex,
	} {
		at := -1
		if want != api.OK {
			at = 0
		}
		check(t, text, poor(">i", "", text), at, want)
		checkBody(t, ">i", "", text, want)
	}
}

func TestModuleWithNothing(t *testing.T) {
	check(t, "nothing", api.Module{}, -1, api.OK)
	check(t, "empty lists", api.Module{Types: []api.FuncType{}, Funcs: []api.Func{}, Exports: []api.Export{}, Start: []int{}}, -1, api.OK)
	check(t, "everything", rich("il>i", "l", "get.0"), -1, api.OK)
}

// row is an instruction of a rich module, what it takes and what it tells; results are those of its function, if it looks at them.
type row struct {
	text, takes, tells, results string
	looks, dies                 bool
}

// rows is every instruction that the chapter names, but for drop and select, which take any type.
func rows() []row {
	out := []row{
		{text: "nop"}, {text: "un", dies: true}, {text: "i", tells: "i"}, {text: "l", tells: "l"},
		{text: "size", tells: "i"}, {text: "grow", takes: "i", tells: "i"},
		{text: "gget.0", tells: "i"}, {text: "gget.1", tells: "l"}, {text: "gget.2", tells: "i"}, {text: "gget.3", tells: "l"},
		{text: "gset.0", takes: "i"}, {text: "gset.1", takes: "l"},
	}
	// The function has Params i, l and Locals l, i.
	for n, typ := range []string{"i", "l", "l", "i"} {
		number := strconv.Itoa(n)
		out = append(out, row{text: "get." + number, tells: typ}, row{text: "set." + number, takes: typ}, row{text: "tee." + number, takes: typ, tells: typ})
	}
	for n, s := range richTypes {
		params, results, _ := strings.Cut(s, ">")
		number := strconv.Itoa(n)
		out = append(out, row{text: "call." + number, takes: params, tells: results}, row{text: "ind." + number, takes: params + "i", tells: results})
	}
	for op, a := range accesses {
		for power := 0; 1<<power <= a.bytes; power++ {
			out = append(out, row{text: strconv.FormatInt(int64(op), 16) + "." + strconv.Itoa(power), takes: a.takes, tells: a.tells})
		}
	}
	for op := range 256 {
		if params, result, ok := nums.Sig(op); ok {
			out = append(out, row{text: strconv.FormatInt(int64(op), 16), takes: lettersOf(params), tells: lettersOf([]int{result})})
		}
	}
	for _, r := range []string{"", "i", "l"} {
		out = append(out,
			row{text: "ret", takes: r, results: r, looks: true, dies: true},
			row{text: "br.F", takes: r, results: r, looks: true, dies: true},
			row{text: "brif.F", takes: r + "i", tells: r, results: r, looks: true},
			row{text: "tab.F", takes: r + "i", results: r, looks: true, dies: true},
			row{text: "tab.F,F,F", takes: r + "i", results: r, looks: true, dies: true},
		)
	}
	return append(out, blockRows()...)
}

// blockRows is blocks of every kind and result, with nothing wrong in them.
func blockRows() []row {
	var out []row
	for _, r := range []string{"", "i", "l"} {
		open := "{ "
		if r != "" {
			open = ":" + r + "{ "
		}
		out = append(out,
			row{text: "block" + open + r + " }", tells: r},
			row{text: "block" + open + "un }", tells: r},
			row{text: "loop" + open + r + " }", tells: r},
			row{text: "loop" + open + "br.0 }", tells: r},
			row{text: "if" + open + r + " }else{ nop " + r + " }", takes: "i", tells: r},
			row{text: "if" + open + "un }else{ nop " + r + " }", takes: "i", tells: r},
			row{text: "if" + open + r + " }else{ un }", takes: "i", tells: r},
		)
	}
	return append(out, row{text: "if{ }", takes: "i"}, row{text: "if{ un }", takes: "i"}, row{text: "block{ i drop }"})
}

// want checks a body around the instruction.
func (r row) want(t *testing.T, results, text string, err api.Errno) {
	t.Helper()
	checkBody(t, "il>"+results, "li", text, err)
}

// wrongTakes is what it takes, with another type at one place.
func (r row) wrongTakes() []string {
	var out []string
	for i := range r.takes {
		out = append(out, r.takes[:i]+other(r.takes[i:i+1])+r.takes[i+1:])
	}
	return out
}

// resultsOf is the results of a function in which the instruction may stand last.
func (r row) resultsOf() string {
	if r.looks {
		return r.results
	}
	return r.tells
}

func TestEachInstruction(t *testing.T) {
	all := rows()
	if len(all) < 150 {
		t.Fatal("too few instructions:", len(all))
	}
	for _, r := range all {
		results := r.resultsOf()
		r.want(t, results, constants(r.takes)+r.text, api.OK)
		for _, wrong := range r.wrongTakes() {
			r.want(t, results, constants(wrong)+r.text, api.ErrType)
			r.want(t, results, "un "+constants(wrong)+r.text, api.ErrType)
		}
		for i := range r.takes {
			r.want(t, results, constants(r.takes[i+1:])+r.text, api.ErrType)
			r.want(t, results, "un "+constants(r.takes[i+1:])+r.text, api.OK)
			// A type popped again leaves the frame as dead as it was.
			r.want(t, results, "un i drop "+constants(r.takes[i+1:])+r.text, api.OK)
		}
		r.want(t, results, "un "+constants(r.takes)+r.text, api.OK)
	}
}

// typed is OK or ErrType.
func typed(ok bool) api.Errno {
	if ok {
		return api.OK
	}
	return api.ErrType
}

func TestWhatEachInstructionLeaves(t *testing.T) {
	for _, r := range rows() {
		text := constants(r.takes) + r.text
		if r.dies {
			continue
		}
		for _, dead := range []string{"", "un "} {
			for _, results := range []string{"", "i", "l"} {
				if !r.looks {
					r.want(t, results, dead+text, typed(results == r.tells || dead != "" && r.tells == ""))
				}
			}
			for _, more := range []string{"i", "l"} {
				r.want(t, r.resultsOf(), dead+more+" "+text, api.ErrType)
				r.want(t, r.resultsOf(), dead+text+" "+more, api.ErrType)
			}
		}
	}
}

// What lay in a frame is gone when it dies, and all that is popped from there on is unknown, but for what is pushed.
func TestWhatDyingLeaves(t *testing.T) {
	for _, r := range rows() {
		results, text := r.resultsOf(), constants(r.takes)+r.text+" "
		if !r.dies {
			continue
		}
		r.want(t, results, text+constants(results), api.OK)
		r.want(t, results, text+"drop 6a drop 7c drop sel drop", api.OK)
		for _, more := range []string{"i", "l"} {
			r.want(t, results, more+" "+text, api.OK)
			r.want(t, results, more+" "+more+" "+text+"i l drop drop", api.OK)
			r.want(t, results, text+more, typed(more == results))
			r.want(t, results, text+more+" drop", api.OK)
		}
	}
}

// Nothing that lies below a frame's height is there for what is in it, even if it is there for the frame.
func TestBelowTheFramesHeight(t *testing.T) {
	for _, r := range rows() {
		end := r.tells
		if r.looks {
			end = r.results
		}
		open := "{ "
		if end != "" {
			open = ":" + end + "{ "
		}
		for i := range r.takes {
			below, above := constants(r.takes[:i+1]), constants(r.takes[i+1:])
			for _, frame := range []string{"block" + open, "loop" + open, "i if" + open, "i if" + open + "un }else{ "} {
				behind := " }"
				if frame == "i if"+open {
					behind = " }else{ un }"
				}
				r.want(t, end, below+frame+above+r.text+behind+" un", api.ErrType)
				r.want(t, end, below+frame+"un "+above+r.text+behind+" un", api.OK)
				// The frame around it is dead: that does not make it so.
				r.want(t, end, "un "+below+frame+above+r.text+behind+" un", api.ErrType)
				r.want(t, end, "un "+frame+above+r.text+behind+" un", api.ErrType)
			}
		}
	}
}

// What lies below a block's height is there again behind it.
func TestBehindABlock(t *testing.T) {
	for _, x := range []struct {
		text string
		want api.Errno
	}{
		{"i block{ }", api.OK}, {"i block{ un }", api.OK}, {"l i block{ br.0 } drop a7", api.OK},
		{"i block:i{ i } 6a", api.OK}, {"l block:i{ i } 6a", api.ErrType}, {"i loop:i{ br.0 } 6a", api.OK}, {"i i if:l{ l }else{ l } ac", api.ErrType},
		{"i i if:l{ l }else{ l } a7 6a", api.OK}, {"i i if{ }else{ nop }", api.OK}, {"block:i{ un } l", api.ErrType},
		// A dead frame in it makes no dead frame around it.
		{"block{ un }", api.ErrType}, {"block{ br.0 } drop i", api.ErrType}, {"loop{ br.0 }", api.ErrType}, {"i if{ un }else{ un }", api.ErrType},
		{"block{ block{ un } drop } i", api.ErrType}, {"block{ i br.1 } drop", api.ErrType},
		// The frame around it stays dead.
		{"un block{ }", api.OK}, {"un block{ i drop }", api.OK}, {"un block:i{ i } drop drop drop", api.OK}, {"un block:l{ l }", api.ErrType}, {"un if{ } 7c a7", api.OK}, {"un l if{ } drop", api.ErrType},
	} {
		checkBody(t, ">i", "", x.text, x.want)
	}
}

func TestDrop(t *testing.T) {
	for _, x := range []struct {
		text string
		want api.Errno
	}{
		{"i drop", api.OK}, {"l drop", api.OK}, {"drop", api.ErrType}, {"i drop drop", api.ErrType}, {"i l drop drop", api.OK},
		{"i l drop a7 drop", api.ErrType}, {"l i drop a7 drop", api.OK},
		{"i block{ drop }", api.ErrType}, {"i block{ un drop } drop", api.OK}, {"un drop drop drop", api.OK}, {"un i drop l drop drop", api.OK}, {"un sel drop", api.OK},
	} {
		checkBody(t, ">", "", x.text, x.want)
	}
}

func TestSelect(t *testing.T) {
	for _, x := range []struct {
		text    string
		results string
		want    api.Errno
	}{
		{"i i i sel", "i", api.OK}, {"l l i sel", "l", api.OK}, {"i i i sel", "l", api.ErrType}, {"l l i sel", "i", api.ErrType},
		// unlike types, and what is no I32
		{"i l i sel", "i", api.ErrType}, {"l i i sel", "l", api.ErrType}, {"i l i sel drop", "", api.ErrType}, {"i i l sel", "i", api.ErrType}, {"l l l sel", "l", api.ErrType},
		// too little
		{"sel", "i", api.ErrType}, {"i sel", "i", api.ErrType}, {"i i sel", "i", api.ErrType}, {"l i sel", "l", api.ErrType}, {"i i i block:i{ sel }", "i", api.ErrType}, {"i block:i{ i i sel }", "i", api.ErrType}, {"i i block:i{ i sel }", "i", api.ErrType},
		// one unknown: the known one is pushed, whichever it is
		{"un i i sel", "i", api.OK}, {"un i i sel", "l", api.ErrType}, {"un l i sel", "l", api.OK}, {"un l i sel", "i", api.ErrType},
		{"un sel i i sel", "i", api.OK}, {"un sel i i sel", "l", api.ErrType}, {"un sel l i sel a7", "i", api.OK},
		{"un block:l{ un sel l i sel } a7", "i", api.OK}, {"un block:l{ un sel i i sel } a7", "i", api.ErrType},
		// neither known: unknown is pushed, and fits all
		{"un sel", "i", api.OK}, {"un sel", "l", api.OK}, {"un i sel", "i", api.OK}, {"un i sel", "l", api.OK}, {"un l sel", "l", api.ErrType}, {"un sel 6a", "i", api.OK}, {"un sel a7", "i", api.OK}, {"un sel 7c", "l", api.OK}, {"un sel sel sel", "l", api.OK},
		{"un sel", "", api.ErrType}, {"un sel drop", "", api.OK}, {"un sel sel", "", api.ErrType},
		{"un sel set.0 sel set.1", "", api.OK}, {"un sel sel i i sel", "l", api.ErrType},
		// unknown ones are on the stack one by one
		{"un sel i sel", "i", api.OK}, {"un sel i sel", "l", api.OK}, {"un i sel i sel i i sel", "l", api.ErrType}, {"un i sel i sel l i sel", "l", api.OK},
	} {
		checkBody(t, "il>"+x.results, "", x.text, x.want)
	}
}

// What valid takes each instruction of chapter 2 to pop and push is what nums says of it.
func TestReckoningAsNumsHasIt(t *testing.T) {
	count := 0
	for op := -1 << 10; op <= 1<<10; op++ {
		params, result, ok := nums.Sig(op)
		takes, tells := reckons(op)
		if !ok {
			if takes != nil || tells != nil {
				t.Errorf("%#x takes %v and tells %v", op, takes, tells)
			}
			continue
		}
		count++
		if !slices.Equal(takes, params) || !slices.Equal(tells, []int{result}) {
			t.Errorf("%#x takes %v and tells %v", op, takes, tells)
		}
	}
	if count != 0x5b-0x45+0x8b-0x67+3 {
		t.Error("nums has", count, "instructions")
	}
}

// The same by Validate alone: a function that takes what nums.Sig says, hands it on, and tells what it says, is valid, and is so with no other types.
func TestReckoningByValidate(t *testing.T) {
	letters := []string{"", "i", "l"}
	for op := -300; op <= 600; op++ {
		params, result, ok := nums.Sig(op)
		for _, a := range letters {
			for _, b := range letters {
				for _, r := range letters {
					m := poor(a+b+">"+r, "", "")
					for n := range a + b {
						m.Funcs[0].Body = append(m.Funcs[0].Body, api.Instr{Op: 0x20, A: n})
					}
					m.Funcs[0].Body = append(m.Funcs[0].Body, api.Instr{Op: op})
					if ok {
						fits := a+b == lettersOf(params) && r == lettersOf([]int{result})
						if err := Validate(m); err != typed(fits) {
							t.Errorf("%#x of %s to %s: %v", op, a+b, r, err)
						}
					} else {
						checkPlain(t, strconv.Itoa(op), m)
					}
				}
			}
		}
	}
}

// asked is a body, and what is told of it.
type asked struct {
	text string
	want api.Errno
}

func checkBodies(t *testing.T, typ, locals string, list []asked) {
	t.Helper()
	for _, x := range list {
		checkBody(t, typ, locals, x.text, x.want)
	}
}

// A block of I32 in one of I64 in an if of none in a loop: each label has types of its own.
func TestBranchesToEachFrame(t *testing.T) {
	around := func(text string) string {
		return "loop:l{ i if{ block:l{ block:i{ " + text + " } drop un } drop } un } a7"
	}
	labels := []string{"i", "l", "", "", "i"} // the loop's has none
	for n, label := range labels {
		number := strconv.Itoa(n)
		for _, have := range []string{"", "i", "l", "ii", "il", "li", "ll"} {
			ends := strings.HasSuffix(have, label)
			checkBody(t, ">i", "", around(constants(have)+"br."+number), typed(ends))
			checkBody(t, ">i", "", around(constants(have)+"i tab."+number), typed(ends))
			checkBody(t, ">i", "", around(constants(have)+"i tab."+number+","+number), typed(ends))
			// It goes on with the same types.
			checkBody(t, ">i", "", around(constants(have)+"i brif."+number+" un"), typed(ends))
			left := strings.TrimSuffix(have, label) + label
			checkBody(t, ">i", "", around(constants(have)+"i brif."+number), typed(ends && left == "i"))
			checkBody(t, ">i", "", around(constants(have)+"br."+number+" i"), typed(ends))
			checkBody(t, ">i", "", around(constants(have)+"br."+number+" l"), api.ErrType)
		}
		for _, op := range []string{"brif.", "tab.", "tab.0,", "tab." + number + ","} {
			checkBody(t, ">i", "", around("i l l "+op+number), api.ErrType) // no I32 is last
		}
		checkBody(t, ">i", "", around("un brif."+number+" un"), api.OK)
		checkBody(t, ">i", "", around("un brif."+number+" 7c un"), typed(label != "i"))
		checkBody(t, ">i", "", around("un brif."+number+" 6a un"), typed(label != "l"))
		checkBody(t, ">i", "", around("un br."+number), api.OK)
		checkBody(t, ">i", "", around("un tab."+number), api.OK)
	}
}

func TestBranchesBeyondTheLastFrame(t *testing.T) {
	for depth := range 5 {
		around := func(text string) string {
			return strings.Repeat("block{ ", depth) + text + strings.Repeat(" }", depth)
		}
		for _, n := range []int{depth, depth + 1, depth + 2, 1<<31 - 1, 1 << 31, 1<<32 - 1} {
			number := strconv.Itoa(n)
			for _, have := range []string{"", "i ", "l ", "un ", "un l "} {
				want := api.ErrIndex
				if n == depth {
					want = typed(have != "l " && have != "un l ")
				}
				for _, text := range []string{"tab." + number, "tab." + number + "," + number, "brif." + number} {
					w := want
					if have == "" && n == depth {
						w = api.ErrType // the I32 is not there
					}
					checkBody(t, ">", "", around(have+text), w)
				}
				if n > depth {
					// One label that is not there, among others, ahead of what is popped.
					checkBody(t, ">", "", around(have+"tab.0,"+number+",0"), api.ErrIndex)
					checkBody(t, ">", "", around(have+"tab."+number+",0"), api.ErrIndex)
					checkBody(t, ">", "", around(have+"tab.0,0,"+number), api.ErrIndex)
					checkBody(t, ">", "", around(have+"br."+number), api.ErrIndex)
				}
			}
			if n == depth {
				checkBody(t, ">", "", around("br."+number), api.OK)
			}
		}
	}
}

func TestBranchTablesOfUnlikeLabels(t *testing.T) {
	// From the innermost on: i, l, none (of the loop), none, l (the function's).
	around := func(text string) string {
		return "block{ loop:i{ block:l{ block:i{ " + text + " } drop un } drop un } drop } un"
	}
	labels := []string{"i", "l", "", "", "l"}
	for a, first := range labels {
		for b, second := range labels {
			for c, last := range labels {
				numbers := strconv.Itoa(a) + "," + strconv.Itoa(b) + "," + strconv.Itoa(c)
				same := first == last && second == last
				for _, have := range []string{"", "i ", "l ", "i l ", "l i "} {
					ends := strings.HasSuffix(strings.ReplaceAll(have, " ", ""), last)
					checkBody(t, ">l", "", around(have+"i tab."+numbers), typed(same && ends))
				}
				// Labels must be alike in a dead frame, too.
				checkBody(t, ">l", "", around("un tab."+numbers), typed(same))
			}
			checkBody(t, ">l", "", around("un tab."+strconv.Itoa(a)+","+strconv.Itoa(b)), typed(first == second))
		}
	}
	many := "tab." + strings.Repeat("2,", 4095)
	checkBodies(t, ">l", "", []asked{
		{around("i " + many + "3,2"), api.OK}, {around("i " + many + "3"), api.OK}, {around("i " + many + "4,2"), api.ErrType}, {around("i " + many + "5,2"), api.ErrIndex}, {around("l " + many + "5"), api.ErrIndex},
	})
}

func TestIfWithoutElse(t *testing.T) {
	checkBodies(t, ">", "", []asked{
		{"i if{ }", api.OK}, {"i if{ nop }", api.OK}, {"i if{ un }", api.OK}, {"i if{ br.0 }", api.OK}, {"i if{ br.1 }", api.OK},
		{"i if:i{ i } drop", api.ErrType}, {"i if:l{ l } drop", api.ErrType}, {"i if:i{ un } drop", api.ErrType}, {"i if:l{ un } drop", api.ErrType}, {"un if:i{ un } drop", api.ErrType}, {"un if:l{ un }", api.ErrType}, {"i if:i{ } drop", api.ErrType},
		{"un if{ }", api.OK}, {"if{ }", api.ErrType}, {"l if{ }", api.ErrType}, {"un l if{ }", api.ErrType}, {"i block{ if{ } } drop", api.ErrType},
		{"i if{ i }", api.ErrType}, {"i if{ drop }", api.ErrType}, {"i i if{ drop }", api.ErrType}, {"i i if{ un drop } drop", api.OK},
		// ahead of Body, behind the pop
		{"i if:i{ br.9 } drop", api.ErrType}, {"un if:l{ call.99 } drop", api.ErrType}, {"if:i{ br.9 } drop", api.ErrType}, {"if{ br.9 }", api.ErrType}, {"l if{ gset.2 }", api.ErrType},
		{"i if{ br.9 }", api.ErrIndex}, {"i if{ i gset.2 }", api.ErrConst}, {"i if{ br.9 i }", api.ErrIndex},
		// with Else of nothing alone there is none
		{"i if:i{ i }else{ } drop", api.ErrType}, {"i if{ }else{ }", api.OK},
	})
}

func TestIfWithElse(t *testing.T) {
	checkBodies(t, ">", "", []asked{
		{"i if:i{ i }else{ i } drop", api.OK}, {"i if:l{ l }else{ l } drop", api.OK}, {"i if{ }else{ nop }", api.OK}, {"i if{ un }else{ un }", api.OK},
		{"i if:i{ l }else{ i } drop", api.ErrType}, {"i if:i{ i }else{ l } drop", api.ErrType}, {"i if:i{ }else{ i } drop", api.ErrType}, {"i if:i{ i }else{ nop } drop", api.ErrType}, {"i if:i{ i i }else{ i } drop", api.ErrType}, {"i if:i{ i }else{ i i } drop", api.ErrType},
		{"i if{ i }else{ nop }", api.ErrType}, {"i if{ }else{ i }", api.ErrType},
		// What Body left is not there for Else, nor is it dead with Body.
		{"i if:i{ i }else{ drop i } drop", api.ErrType}, {"i if:i{ un }else{ nop } drop", api.ErrType}, {"i if{ un }else{ drop }", api.ErrType}, {"i if:i{ un }else{ i 6a } drop", api.ErrType}, {"i if:i{ i }else{ nop } 6a drop", api.ErrType},
		// Its result is pushed once.
		{"i if:i{ i }else{ i }", api.ErrType}, {"i if:i{ i }else{ i } drop drop", api.ErrType}, {"i if:i{ i }else{ i } 6a drop", api.ErrType},
		// Its label is that of a block, in both.
		{"i if:i{ i br.0 }else{ i br.0 } drop", api.OK}, {"i if:i{ br.0 }else{ i } drop", api.ErrType}, {"i if:i{ i }else{ br.0 } drop", api.ErrType}, {"i if:i{ l br.0 }else{ i } drop", api.ErrType}, {"i if:l{ l i brif.0 }else{ l i tab.0 } drop", api.OK},
		{"i if:i{ br.1 }else{ br.1 } drop", api.OK}, {"i if:i{ br.2 }else{ i } drop", api.ErrIndex}, {"i if:i{ i }else{ br.2 } drop", api.ErrIndex},
		// Body goes ahead of Else.
		{"i if{ br.9 }else{ drop }", api.ErrIndex}, {"i if{ drop }else{ br.9 }", api.ErrType}, {"i if{ i }else{ br.9 }", api.ErrType}, {"i if:i{ l }else{ br.9 }", api.ErrType},
	})
}

func TestLoops(t *testing.T) {
	checkBodies(t, ">", "", []asked{
		{"loop{ }", api.OK}, {"loop{ br.0 }", api.OK}, {"loop:i{ br.0 } drop", api.OK}, {"loop:i{ i br.0 } drop", api.OK}, {"loop:i{ i } drop", api.OK}, {"loop:i{ } drop", api.ErrType}, {"loop:i{ l } drop", api.ErrType}, {"loop:i{ i i } drop", api.ErrType}, {"loop{ i }", api.ErrType},
		// Its label has no types, whatever its result.
		{"loop:i{ i i brif.0 } drop", api.OK}, {"loop:i{ i brif.0 i } drop", api.OK}, {"loop:i{ i brif.0 } drop", api.ErrType}, {"loop:l{ i brif.0 l } drop", api.OK}, {"loop:l{ i tab.0 } drop", api.OK}, {"loop:l{ i tab.0,0 } drop", api.OK}, {"loop:l{ un brif.0 } drop", api.OK}, {"loop:l{ un brif.0 i } drop", api.ErrType},
		{"loop:i{ un brif.0 7c drop i } drop", api.OK},
		{"block:i{ loop:i{ i tab.0,1 } } drop", api.ErrType}, {"block{ loop:i{ i tab.0,1 } drop }", api.OK}, {"block:i{ loop:i{ i br.1 } } drop", api.OK}, {"block:i{ loop{ i br.1 } un } drop", api.OK}, {"block:i{ loop{ br.1 } i } drop", api.ErrType},
		{"loop:i{ loop:l{ br.1 } drop br.0 } drop", api.OK},
	})
}

func TestBlocks(t *testing.T) {
	checkBodies(t, ">", "", []asked{
		{"block{ }", api.OK}, {"block:i{ i } drop", api.OK}, {"block:l{ l } drop", api.OK}, {"block:i{ } drop", api.ErrType}, {"block:i{ l } drop", api.ErrType}, {"block:l{ i } drop", api.ErrType}, {"block:i{ i i } drop", api.ErrType}, {"block:i{ l i } drop", api.ErrType}, {"block{ i }", api.ErrType}, {"block{ un i }", api.ErrType}, {"block:i{ un i i } drop", api.ErrType}, {"block:i{ un } drop", api.OK}, {"block:i{ un l } drop", api.ErrType},
		{"block:i{ i br.0 } drop", api.OK}, {"block:i{ br.0 } drop", api.ErrType}, {"block:i{ l br.0 } drop", api.ErrType}, {"block:i{ l i br.0 } drop", api.OK}, {"block:i{ i br.0 l drop } drop", api.OK}, {"block:i{ i br.0 l } drop", api.ErrType},
		{"block:i{ i i brif.0 } drop", api.OK}, {"block:i{ i i brif.0 drop i } drop", api.OK}, {"block:i{ l i brif.0 } drop", api.ErrType}, {"block:i{ i l brif.0 } drop", api.ErrType},
		{"block:i{ br.1 } drop", api.OK}, {"block:i{ br.2 } drop", api.ErrIndex}, {"block{ ret }", api.OK},
		// An error in it goes ahead of that of its end.
		{"block:i{ br.9 }", api.ErrIndex}, {"block:i{ l br.9 }", api.ErrIndex}, {"block:i{ drop br.9 }", api.ErrType},
	})
}

func TestReturn(t *testing.T) {
	checkBodies(t, ">i", "", []asked{
		{"i ret", api.OK}, {"ret", api.ErrType}, {"l ret", api.ErrType}, {"l i ret", api.OK}, {"i ret l drop", api.OK}, {"i ret l", api.ErrType}, {"i ret i", api.OK},
		// the function's Results, from however deep within
		{"block:l{ i ret } a7", api.OK}, {"block:l{ l ret } a7", api.ErrType}, {"loop:l{ block{ i ret } un } drop i", api.OK}, {"i block{ ret }", api.ErrType}, {"i i if{ i ret }else{ ret }", api.ErrType}, {"i i if{ i ret }else{ i ret }", api.OK},
		{"block{ un ret } i", api.OK}, {"block{ un l ret } i", api.ErrType},
	})
	checkBodies(t, ">", "", []asked{{"ret", api.OK}, {"i ret", api.OK}, {"block:i{ ret } drop", api.OK}, {"block:i{ ret }", api.ErrType}, {"ret i", api.ErrType}})
}

func TestEndsOfBodies(t *testing.T) {
	for results, list := range map[string][]asked{
		"":  {{"", api.OK}, {"i", api.ErrType}, {"l", api.ErrType}, {"un", api.OK}, {"un i", api.ErrType}, {"un sel", api.ErrType}, {"i drop", api.OK}},
		"i": {{"", api.ErrType}, {"i", api.OK}, {"l", api.ErrType}, {"i i", api.ErrType}, {"l i", api.ErrType}, {"un", api.OK}, {"un i", api.OK}, {"un l", api.ErrType}, {"un i i", api.ErrType}, {"un sel", api.OK}},
		"l": {{"", api.ErrType}, {"l", api.OK}, {"i", api.ErrType}, {"l l", api.ErrType}, {"i l", api.ErrType}, {"un", api.OK}, {"un l", api.OK}, {"un i", api.ErrType}, {"un l l", api.ErrType}, {"un sel", api.OK}},
	} {
		checkBodies(t, ">"+results, "", list)
		checkBodies(t, "il>"+results, "li", list)
	}
}

func TestCalls(t *testing.T) {
	last := strconv.Itoa(richNumber)
	beyond := strconv.Itoa(richNumber + 1)
	checkBodies(t, "il>l", "", []asked{
		{"i l call." + last, api.OK}, {"i call." + last, api.ErrType}, {"l i call." + last, api.ErrType}, {"call." + beyond, api.ErrIndex}, {"un call." + beyond, api.ErrIndex}, {"i l call." + beyond, api.ErrIndex}, {"call.4294967295", api.ErrIndex},
		{"i l i ind." + last, api.OK}, {"i l ind." + last, api.ErrType}, {"i l l ind." + last, api.ErrType}, {"i l i ind." + beyond, api.ErrIndex}, {"ind." + beyond, api.ErrIndex}, {"un ind." + beyond, api.ErrIndex}, {"ind.4294967295", api.ErrIndex},
		// The last of Params is the last on the stack.
		{"l i call.1", api.OK}, {"i l call.1", api.ErrType}, {"i l l call.3 drop l", api.OK}, {"l l i call.3 drop l", api.ErrType}, {"i l l i ind.3 drop l", api.OK},
		{"call.0 l", api.OK}, {"i call.4 l", api.OK}, {"l call.6 l", api.OK}, {"call.2 drop l", api.OK}, {"call.5", api.OK}, {"call.2", api.ErrType}, {"call.0", api.ErrType},
	})
}

// A module that has nothing but its function has no table, memory, global, and no other type.
func TestWithoutWhatIsAskedFor(t *testing.T) {
	for _, x := range []struct {
		text string
		want api.Errno
	}{
		{"call.0", api.OK}, {"call.1", api.ErrIndex}, {"un call.1", api.ErrIndex},
		{"i ind.0", api.ErrIndex}, {"ind.0", api.ErrIndex}, {"un ind.0", api.ErrIndex}, {"i ind.1", api.ErrIndex},
		{"get.0", api.ErrIndex}, {"i set.0", api.ErrIndex}, {"i tee.0", api.ErrIndex}, {"un get.0", api.ErrIndex}, {"set.0", api.ErrIndex}, {"tee.0", api.ErrIndex},
		{"gget.0", api.ErrIndex}, {"i gset.0", api.ErrIndex}, {"gset.0", api.ErrIndex}, {"un gset.0", api.ErrIndex},
		{"size", api.ErrIndex}, {"i grow", api.ErrIndex}, {"grow", api.ErrIndex}, {"un size", api.ErrIndex}, {"un grow", api.ErrIndex}, {"l grow", api.ErrIndex},
	} {
		at := -1
		if x.want != api.OK {
			at = 0
		}
		check(t, x.text, poor(">", "", x.text), at, x.want)
	}
	m := poor(">", "", "i ind.0")
	m.Tables = make([]api.Limits, 1)
	check(t, "with a table", m, -1, api.OK)
	m.Funcs[0].Body = instrs("i ind.1")
	check(t, "with a table, without a type", m, 0, api.ErrIndex)
	m = poor(">i", "", "size grow")
	m.Mems = make([]api.Limits, 1)
	check(t, "with a memory", m, -1, api.OK)
}

func TestLocals(t *testing.T) {
	params, locals := strings.Repeat("il", 20), strings.Repeat("i", 100)+strings.Repeat("l", 156)
	all := params + locals
	for n := range len(all) + 2 {
		number := strconv.Itoa(n)
		for _, typ := range []string{"i", "l"} {
			want := api.ErrIndex
			if n < len(all) {
				want = typed(all[n:n+1] == typ)
			}
			checkBody(t, params+">"+typ, locals, "get."+number, want)
			checkBody(t, params+">", locals, typ+" set."+number, want)
			checkBody(t, params+">"+typ, locals, typ+" tee."+number, want)
		}
	}
	checkBodies(t, params+">", locals, []asked{
		{"get.4294967295 un", api.ErrIndex}, {"un set.4294967295", api.ErrIndex}, {"un tee.4294967295", api.ErrIndex},
		{"un set.295 set.0", api.OK}, {"un tee.295 a7 drop", api.OK}, {"un tee.295 45 drop", api.ErrType}, {"un tee.0 a7 drop", api.ErrType},
	})
	// Each function has locals of its own.
	m := rich("il>", "l", "get.2 drop")
	m.Funcs[0].Body = instrs("get.0")
	check(t, "no locals", m, 2, api.ErrIndex)
	m.Funcs[0].Body, m.Funcs[0].Locals = instrs("get.0"), typesOf("i")
	check(t, "one local", m, -1, api.OK)
}

func TestGlobals(t *testing.T) {
	for n, typ := range []string{"i", "l", "i", "l"} {
		number := strconv.Itoa(n)
		set := api.OK
		if n >= 2 {
			set = api.ErrConst
		}
		checkBody(t, ">"+typ, "", "gget."+number, api.OK)
		checkBody(t, ">"+other(typ), "", "gget."+number, api.ErrType)
		checkBody(t, ">", "", typ+" gset."+number, set)
		checkBody(t, ">", "", "un gset."+number, set)
		// That it is not Mut goes ahead of what is popped.
		for _, have := range []string{"", other(typ) + " ", "un " + other(typ) + " "} {
			want := api.ErrType
			if n >= 2 {
				want = api.ErrConst
			}
			checkBody(t, ">", "", have+"gset."+number, want)
		}
	}
	checkBodies(t, ">", "", []asked{
		{"gget.4", api.ErrIndex}, {"i gset.4", api.ErrIndex}, {"gset.4", api.ErrIndex}, {"un gget.4", api.ErrIndex}, {"un gset.4", api.ErrIndex}, {"gget.4294967295", api.ErrIndex}, {"gset.4294967295", api.ErrIndex},
	})
}

func TestPowersOfLoadsAndStores(t *testing.T) {
	if len(accesses) != 19 {
		t.Fatal(len(accesses))
	}
	for op := range 256 {
		a, ok := accesses[op]
		if ok != (wast.Form(op) == wast.FormMemory) {
			t.Fatalf("%#x", op)
		}
		if !ok {
			continue
		}
		for _, power := range []int{0, 1, 2, 3, 4, 5, 31, 32, 33, 62, 63, 64, 65, 66, 127, 128, 256, 1 << 16, 1<<31 - 1, 1 << 31, 1<<32 - 64, 1<<32 - 1} {
			fits := power < 4 && 1<<power <= a.bytes
			word := strconv.FormatInt(int64(op), 16) + "." + strconv.Itoa(power)
			checkBody(t, ">"+a.tells, "", constants(a.takes)+word, typed(fits))
			checkBody(t, ">"+a.tells, "", "un "+word, typed(fits))
			for _, have := range []string{constants(a.takes), "", "un ", "l l "} {
				check(t, word, poor(">"+a.tells, "", have+word), 0, api.ErrIndex)
			}
			// The offset is any number.
			for _, b := range []int{0, 1, 1<<31 - 1, 1<<32 - 1} {
				m := rich(">"+a.tells, "", constants(a.takes)+word)
				body := m.Funcs[len(m.Funcs)-1].Body
				body[len(body)-1].B = b
				if err := Validate(m); err != typed(fits) {
					t.Errorf("%s at %d: %v", word, b, err)
				}
			}
		}
	}
}
