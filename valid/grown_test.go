package valid

import (
	"math"
	"reflect"
	"slices"
	"strconv"
	"strings"
	"testing"

	"athanor/api"
	"athanor/nums"
)

// This file holds Where against the plain look at all short lists of words, and at modules that are grown by chance: valid ones, and the same with something changed.

// sequences shows every list of at most that many of the words, behind those ahead.
func sequences(ahead string, words []string, most int, see func(text string)) {
	see(ahead)
	if most > 0 {
		for _, w := range words {
			sequences(ahead+" "+w, words, most-1, see)
		}
	}
}

// small is a module with one of everything, whose function has a local of each type.
func small(results string) api.Module {
	m := poor(">"+results, "il", "")
	m.Globals = []api.Global{{Type: api.I32, Mut: true, Init: zero}, {Type: api.I64, Init: long}}
	m.Tables, m.Mems = make([]api.Limits, 1), make([]api.Limits, 1)
	return m
}

// checkSequences holds every list of words, within each of the frames, against the plain look. It wants so many at least that are valid, and that are not.
func checkSequences(t *testing.T, words string, most, least int, frames ...string) {
	t.Helper()
	seen := map[api.Errno]int{}
	for _, results := range []string{"", "i", "l"} {
		m := small(results)
		for _, frame := range frames {
			sequences("", strings.Fields(words), most, func(text string) {
				text = strings.ReplaceAll(frame, "@", text)
				m.Funcs[0].Body = instrs(text)
				seen[checkPlain(t, ">"+results+": "+text, m)]++
			})
		}
	}
	if seen[api.OK] < least || seen[api.ErrType] < least {
		t.Error("too few of a kind:", seen)
	}
}

func TestShortBodies(t *testing.T) {
	checkSequences(t, "i l un drop sel 6a 7c a7 tee.0 set.1", 4, 1000, "@")
	checkSequences(t, "i l un drop br.0 brif.0 tab.0,0 ret call.0", 4, 1000, "@")
	checkSequences(t, "i un sel l drop", 6, 1000, "@")
	checkSequences(t, "i l gset.0 gset.1 gget.0 gget.1 28.2 29.3 36.2 37.4 grow size ind.0", 3, 50, "@", "un @")
}

func TestShortBodiesInFrames(t *testing.T) {
	checkSequences(t, "i l un drop br.0 br.1 brif.0 brif.1 br.2 sel ret", 3, 1000,
		"block{ @ }", "block:i{ @ }", "l block:i{ @ } sel", "loop:i{ @ }", "loop:l{ @ }", "un loop{ @ }", "i if{ @ }", "i if:i{ @ }else{ i }", "i if:l{ l }else{ @ }", "if:i{ @ }else{ @ }")
	checkSequences(t, "i l un drop br.0 brif.1 br.2 tab.0,1 tab.1,0 tab.2,0 tab.0,2 tab.3,0", 3, 500,
		"block:i{ block:i{ @ } }", "block:l{ block:i{ @ } drop l }", "loop:i{ block{ @ } i }", "block:i{ loop:i{ @ } }", "block{ i if{ @ }else{ un @ } @ }", "un block:i{ @ loop:l{ @ } a7 }")
}

// chance is numbers all over, the same each time.
type chance uint64

func (c *chance) below(n int) int {
	*c ^= *c << 13
	*c ^= *c >> 7
	*c ^= *c << 17
	return int(uint64(*c) >> 1 % uint64(n))
}

func (c *chance) of(list ...string) string { return list[c.below(len(list))] }

// grower writes bodies that are valid, of a rich module's last function.
type grower struct {
	*chance
	locals string
	labels []string // of the frames, the innermost first
	depth  int      // how many more blocks may be in one another
}

// value is words that leave one value of a type.
func (g *grower) value(typ string) string {
	if g.depth == 0 {
		return g.simple(typ)
	}
	g.depth--
	defer func() { g.depth++ }()
	switch g.below(12) {
	case 0:
		return g.reckoned(typ)
	case 1:
		return g.values("i") + g.of(map[string][]string{"i": {"28.2", "2c.0", "2d", "2e.1", "2f.0"}, "l": {"29.3", "30", "31.0", "32.1", "33", "34.2", "35.0"}}[typ]...)
	case 2:
		return "block:" + typ + "{ " + g.list(typ, typ) + "}"
	case 3:
		return "loop:" + typ + "{ " + g.list("", typ) + "}"
	case 4:
		return g.values("i") + "if:" + typ + "{ " + g.list(typ, typ) + "}else{ " + g.list(typ, typ) + "}"
	case 5:
		return g.called(typ)
	case 6:
		return g.values(typ+typ+"i") + "sel"
	case 7:
		return g.effect() + " " + g.value(typ)
	case 8:
		return g.jump()
	case 9:
		if n := slices.Index(g.labels, typ); n >= 0 {
			return g.values(typ+"i") + "brif." + strconv.Itoa(n)
		}
	case 10:
		if n := strings.Index(g.locals, typ); n >= 0 {
			return g.values(typ) + "tee." + strconv.Itoa(n)
		}
	}
	return g.simple(typ)
}

func (g *grower) simple(typ string) string {
	if n := strings.LastIndex(g.locals, typ); n >= 0 && g.below(3) == 0 {
		return "get." + strconv.Itoa(n)
	}
	return g.of(map[string][]string{"i": {"i", "gget.0", "gget.2", "size", "call.2"}, "l": {"l", "gget.1", "gget.3", "call.5"}}[typ]...)
}

func (g *grower) values(types string) string {
	out := ""
	for _, typ := range strings.Split(types, "") {
		out += g.value(typ) + " "
	}
	return out
}

// reckoned is an instruction of chapter 2 that tells that type.
func (g *grower) reckoned(typ string) string {
	for {
		op := g.below(256)
		if params, result, ok := nums.Sig(op); ok && lettersOf([]int{result}) == typ {
			return g.values(lettersOf(params)) + strconv.FormatInt(int64(op), 16)
		}
	}
}

// called is a call of one of the rich module's functions that has such a result ("" is none).
func (g *grower) called(result string) string {
	for {
		n := g.below(len(richTypes))
		if params, results, _ := strings.Cut(richTypes[n], ">"); results == result {
			if g.below(2) == 0 {
				return g.values(params+"i") + "ind." + strconv.Itoa(n)
			}
			if params != "" {
				return g.values(params) + "call." + strconv.Itoa(n)
			}
			return "call." + strconv.Itoa(n)
		}
	}
}

// list is what stands in a frame.
func (g *grower) list(label, end string) string {
	g.labels = slices.Insert(g.labels, 0, label)
	out := ""
	for range g.below(3) {
		out += g.effect() + " "
	}
	if end != "" {
		out += g.value(end) + " "
	}
	g.labels = g.labels[1:]
	return out
}

// effect is words that leave nothing.
func (g *grower) effect() string {
	if g.depth == 0 {
		return "nop"
	}
	g.depth--
	defer func() { g.depth++ }()
	switch g.below(10) {
	case 0:
		return g.values(g.of("i", "l")) + "drop"
	case 1:
		return g.values("i") + "gset.0"
	case 2:
		n := g.below(len(g.locals))
		return g.values(g.locals[n:n+1]) + "set." + strconv.Itoa(n)
	case 3:
		return g.values("ii") + g.of("36.2", "3a", "3b.1")
	case 4:
		return g.values("il") + g.of("37.3", "3c.0", "3d.1", "3e.2")
	case 5:
		return g.of("block{ ", "loop{ ") + g.list("", "") + "}"
	case 6:
		return g.values("i") + "if{ " + g.list("", "") + g.of("}", "}else{ "+g.list("", "")+"nop }")
	case 7:
		return g.called("")
	case 8:
		if n := slices.Index(g.labels, ""); n >= 0 {
			return g.values("i") + "brif." + strconv.Itoa(n)
		}
	}
	return "nop"
}

// jump is words behind which the frame is dead, and what may stand there.
func (g *grower) jump() string {
	n := g.below(len(g.labels))
	label, number := g.labels[n], strconv.Itoa(n)
	var out string
	switch g.below(4) {
	case 0:
		out = "un"
	case 1:
		out = strings.TrimLeft(g.some(label)+"br."+number, " ")
	case 2:
		out = g.some(g.labels[len(g.labels)-1]) + "ret"
	case 3:
		out = g.some(label) + g.values("i") + "tab." + strings.Repeat(number+",", g.below(3)) + number
	}
	return out + g.of("", " drop drop", " sel drop", " 6a drop", " a7 drop l drop", " tee.0 drop")
}

func (g *grower) some(types string) string {
	if types == "" {
		return ""
	}
	return g.values(types)
}

// text is the type of a function, and a valid body.
func (g *grower) text() (typ, locals, text string) {
	params, results := g.of("", "i", "l", "il", "lli"), g.of("", "i", "l")
	locals = g.of("i", "l", "li", "iil")
	g.locals, g.labels, g.depth = params+locals, nil, 1+g.below(5)
	return params + ">" + results, locals, g.list(results, results)
}

func TestGrownModules(t *testing.T) {
	g := &grower{chance: new(chance)}
	*g.chance = 88172645463325252
	great := 0
	for range 4000 {
		typ, locals, text := g.text()
		checkBody(t, typ, locals, text, api.OK)
		if len(strings.Fields(text)) > 20 {
			great++
		}
	}
	if great < 200 {
		t.Error("too few great ones:", great)
	}
}

// What follows: a valid module with a function more, a valid body with a nop more.
func TestGrownModulesWithMore(t *testing.T) {
	g := &grower{chance: new(chance)}
	*g.chance = 123456789
	for range 300 {
		typ, locals, text := g.text()
		if len(text) > 2000 {
			continue
		}
		m := rich(typ, locals, text)
		checkFunctionMore(t, m)
		checkNopMore(t, m)
	}
}

// disturbed is a text with one of its words changed, left out or doubled. Words with braces stay.
func (c *chance) disturbed(text string) string {
	list := strings.Fields(text)
	for range 10 {
		n := c.below(len(list) + 1)
		if n == len(list) || strings.ContainsAny(list[n], "{}") {
			continue
		}
		switch c.below(4) {
		case 0:
			list = slices.Delete(list, n, n+1)
		case 1:
			list = slices.Insert(list, n, list[n])
		case 2:
			list[n] = c.of("i", "l", "un", "drop", "sel", "6a", "7c", "a7", "ac", "br.0", "br.1", "br.3", "brif.0", "brif.1", "tab.0,1", "tab.1,1", "ret", "nop", "call.0", "call.9", "ind.7", "ind.8", "gset.1", "gset.2", "gset.4", "28.3", "3b.2", "get.2", "set.3", "tee.1")
		case 3:
			if m := c.below(len(list)); !strings.ContainsAny(list[m], "{}") {
				list[n], list[m] = list[m], list[n]
			}
		}
		break
	}
	return strings.Join(list, " ")
}

func TestGrownModulesWithAWordChanged(t *testing.T) {
	g := &grower{chance: new(chance)}
	*g.chance = 521288629
	seen := map[api.Errno]int{}
	for range 3000 {
		typ, locals, text := g.text()
		for range 4 {
			text = g.disturbed(text)
			seen[checkPlain(t, typ+": "+text, rich(typ, locals, text))]++
		}
	}
	if seen[api.OK] < 200 || seen[api.ErrType] < 200 || seen[api.ErrIndex] < 200 || seen[api.ErrConst] < 20 {
		t.Error("too few of a kind:", seen)
	}
}

// fields shows everything in v that is a number, a bool, a text or a list, in one order.
func fields(v reflect.Value, see func(v reflect.Value)) {
	switch v.Kind() {
	case reflect.Struct:
		for i := range v.NumField() {
			fields(v.Field(i), see)
		}
		return
	case reflect.Slice:
		for i := range v.Len() {
			fields(v.Index(i), see)
		}
	}
	see(v)
}

// change is a copy of m with one field changed to something near an edge.
func (c *chance) change(m api.Module) api.Module {
	count := 0
	fields(reflect.ValueOf(m), func(reflect.Value) { count++ })
	number := c.below(count)
	out := copied(reflect.ValueOf(&m).Elem())
	changed := reflect.New(out.Type()).Elem()
	changed.Set(out)
	fields(changed, func(v reflect.Value) {
		if number == 0 {
			c.set(v)
		}
		number--
	})
	return changed.Interface().(api.Module)
}

func (c *chance) set(v reflect.Value) {
	switch v.Kind() {
	case reflect.Int:
		numbers := []int{0, 1, 2, 3, 4, 5, 7, 8, 0x0c, 0x0e, 0x11, 0x23, 0x24, 0x28, 0x41, 0x42, 0x6a, 126, 127, 65536, 65537, 1<<32 - 1, -1, math.MaxInt}
		v.SetInt(int64(numbers[c.below(len(numbers))]))
	case reflect.Bool:
		v.SetBool(!v.Bool())
	case reflect.String:
		v.SetString(c.of("", "f", "t", "m", "g", "\xff"))
	case reflect.Slice:
		switch n := v.Len(); {
		case n > 0 && c.below(2) == 0:
			v.Set(v.Slice(0, n-1))
		case n > 0:
			v.Set(reflect.Append(v, v.Index(c.below(n))))
		default:
			v.Set(reflect.Append(v, reflect.Zero(v.Type().Elem())))
		}
	}
}

func TestGrownModulesWithAFieldChanged(t *testing.T) {
	g := &grower{chance: new(chance)}
	*g.chance = 362436069
	seen := map[api.Errno]int{}
	for range 3000 {
		typ, locals, text := g.text()
		m := rich(typ, locals, text)
		for range 3 {
			m = g.change(m)
			seen[checkPlain(t, typ+": "+text, m)]++
		}
	}
	for _, err := range []api.Errno{api.OK, api.ErrMany, api.ErrShape, api.ErrType, api.ErrIndex, api.ErrConst, api.ErrTwice} {
		if seen[err] < 10 {
			t.Errorf("%v is answered %d times alone", err, seen[err])
		}
	}
}

func FuzzModules(f *testing.F) {
	f.Add(uint64(1), uint64(2))
	f.Add(uint64(7), uint64(1)<<63)
	f.Fuzz(func(t *testing.T, seed, way uint64) {
		c, d := chance(seed|1), chance(way|1)
		g := &grower{chance: &c}
		typ, locals, text := g.text()
		m := rich(typ, locals, text)
		check(t, text, m, -1, api.OK)
		checkFunctionMore(t, m)
		for range 4 {
			text = d.disturbed(text)
			checkPlain(t, typ+": "+text, rich(typ, locals, text))
			m = d.change(m)
			checkPlain(t, typ+": "+text, m)
		}
	})
}
