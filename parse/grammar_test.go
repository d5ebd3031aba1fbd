package parse

import (
	"math/rand"
	"slices"
	"strings"

	"athanor/api"
)

// chapterGrammar is the chapter's grammar as it stands there, but that in types a Low is int, which has no arguments, or a Name.
const chapterGrammar = `
program = { decl } expr
decl    = "type" Low { Var } "=" con { "|" con } ";"
con     = Up { tyatom }
type    = tyapp [ "->" type ]
tyapp   = int | Name { tyatom } | Var | "(" type ")"
tyatom  = int | Name | Var | "(" type ")"
expr    = "fun" Low "->" expr | "let" Low "=" expr "in" expr | "let" "rec" Low Low "=" expr "in" expr | "if" expr "then" expr "else" expr | "case" expr "of" branch { "|" branch } "end" | comp [ ";" expr ]
branch  = pattern "->" expr
comp    = sum [ ( "<" | "==" ) sum ]
sum     = prod { ( "+" | "-" ) prod }
prod    = app { ( "*" | "/" | "%" ) app }
app     = atom { atom } | Up { atom } | "print" atom
atom    = Low | Int | Up | "(" expr ")"
pattern = Up { patom } | patom
patom   = Low | "_" | Int | Up | "(" pattern ")"
`

// production is a symbol and one list of symbols that it may be.
type production struct {
	of    string
	parts []string
}

// grammar is productions without { }, [ ] and ( ): these became symbols of their own.
type grammar struct {
	list    []production
	by      map[string][]int
	heights []int // how high the lowest tree of each production is
}

func readGrammar() *grammar {
	g := &grammar{by: map[string][]int{}}
	for _, line := range strings.Split(strings.TrimSpace(chapterGrammar), "\n") {
		words := strings.Fields(line)
		rest := g.choices(words[0], words[2:])
		if len(rest) != 0 {
			panic(line)
		}
	}
	g.measure()
	return g
}

func (g *grammar) add(of string, parts []string) {
	g.by[of] = append(g.by[of], len(g.list))
	g.list = append(g.list, production{of, parts})
}

// fresh is a name for a part of a rule.
func (g *grammar) fresh(of string) string {
	for i := 0; ; i++ {
		name := of + strings.Repeat("+", i+1)
		if _, ok := g.by[name]; !ok {
			g.by[name] = nil
			return name
		}
	}
}

// choices reads what the symbol may be, up to a closing bracket, and tells what stands from there on.
func (g *grammar) choices(of string, words []string) []string {
	var parts []string
	for len(words) > 0 && !strings.Contains(")]}", words[0]) {
		word := words[0]
		words = words[1:]
		switch word {
		case "|":
			g.add(of, parts)
			parts = nil
		case "(", "[", "{":
			inner, outer := g.fresh(of), g.fresh(of)
			words = g.choices(inner, words)[1:]
			parts = append(parts, outer)
			switch word {
			case "(":
				g.add(outer, []string{inner})
			case "[":
				g.add(outer, []string{inner})
				g.add(outer, nil)
			case "{":
				g.add(outer, nil)
				g.add(outer, []string{outer, inner})
			}
		default:
			parts = append(parts, word)
		}
	}
	g.add(of, parts)
	return words
}

// fitting tells the terminals of the grammar that a token is.
func fitting(token api.Token) []string {
	switch token.Kind {
	case api.TokLow:
		if token.Text == "int" {
			return []string{"Low", "int"}
		}
		return []string{"Low", "Name"}
	case api.TokUp:
		return []string{"Up"}
	case api.TokVar:
		return []string{"Var"}
	case api.TokInt:
		return []string{"Int"}
	}
	return []string{`"` + token.Text + `"`}
}

// item is a production of which so many parts have been met since the token from.
type item struct{ rule, dot, from int }

// looks is Earley's way to go through tokens: it asks the grammar alone, and guesses nothing.
type looks struct {
	g    *grammar
	sets [][]item
	seen []map[item]bool
}

func (g *grammar) begin() *looks {
	l := &looks{g: g}
	l.open()
	for _, rule := range g.by["program"] {
		l.put(item{rule, 0, 0})
	}
	l.close()
	return l
}

func (l *looks) open() {
	l.sets = append(l.sets, nil)
	l.seen = append(l.seen, map[item]bool{})
}

func (l *looks) put(x item) {
	last := len(l.sets) - 1
	if !l.seen[last][x] {
		l.seen[last][x] = true
		l.sets[last] = append(l.sets[last], x)
	}
}

// part tells the part behind the dot; empty, if there is none.
func (l *looks) part(x item) string {
	parts := l.g.list[x.rule].parts
	if x.dot == len(parts) {
		return ""
	}
	return parts[x.dot]
}

// close goes on with the last set until nothing is added to it.
func (l *looks) close() {
	last := len(l.sets) - 1
	for i := 0; i < len(l.sets[last]); i++ {
		x := l.sets[last][i]
		part := l.part(x)
		if part == "" {
			of := l.g.list[x.rule].of
			for _, y := range l.sets[x.from] {
				if l.part(y) == of {
					l.put(item{y.rule, y.dot + 1, y.from})
				}
			}
			continue
		}
		for _, rule := range l.g.by[part] {
			l.put(item{rule, 0, last})
			// What may be nothing is passed at once: who waits for it may come when it is complete already.
			if len(l.g.list[rule].parts) == 0 {
				l.put(item{x.rule, x.dot + 1, x.from})
			}
		}
	}
}

// can tells whether a token may stand next.
func (l *looks) can(token api.Token) bool {
	fits := fitting(token)
	return slices.ContainsFunc(l.sets[len(l.sets)-1], func(x item) bool { return slices.Contains(fits, l.part(x)) })
}

// step goes through a token that may stand next.
func (l *looks) step(token api.Token) {
	fits := fitting(token)
	before := l.sets[len(l.sets)-1]
	l.open()
	for _, x := range before {
		if slices.Contains(fits, l.part(x)) {
			l.put(item{x.rule, x.dot + 1, x.from})
		}
	}
	l.close()
}

// back takes the last step back.
func (l *looks) back() {
	l.sets = l.sets[:len(l.sets)-1]
	l.seen = l.seen[:len(l.seen)-1]
}

// done tells whether what has been gone through is a program.
func (l *looks) done() bool {
	for _, x := range l.sets[len(l.sets)-1] {
		if x.from == 0 && l.g.list[x.rule].of == "program" && l.part(x) == "" {
			return true
		}
	}
	return false
}

// misfit tells which is the first token that can't stand; their number, if something lacks behind them; -1, if they are a program.
func (g *grammar) misfit(tokens []api.Token) int {
	l := g.begin()
	for i, token := range tokens {
		if !l.can(token) {
			return i
		}
		l.step(token)
	}
	if !l.done() {
		return len(tokens)
	}
	return -1
}

// grow tells words that a symbol may be, by chance; with nothing left of room, the shortest way is taken.
func (g *grammar) grow(r *rand.Rand, symbol string, room *int) []string {
	if g.by[symbol] == nil {
		*room--
		return []string{sampleWord(r, symbol)}
	}
	rules := g.by[symbol]
	rule := rules[r.Intn(len(rules))]
	if *room <= 0 {
		rule = g.lowest(symbol)
	}
	var out []string
	for _, part := range g.list[rule].parts {
		out = append(out, g.grow(r, part, room)...)
	}
	return out
}

// measure finds the heights, which only go down.
func (g *grammar) measure() {
	g.heights = slices.Repeat([]int{1 << 20}, len(g.list))
	for changed := true; changed; {
		changed = false
		for i, rule := range g.list {
			height := 0
			for _, part := range rule.parts {
				height = max(height, g.height(part))
			}
			if height+1 < g.heights[i] {
				g.heights[i], changed = height+1, true
			}
		}
	}
}

func (g *grammar) height(symbol string) int {
	if g.by[symbol] == nil {
		return 0
	}
	return g.heights[g.lowest(symbol)]
}

// lowest tells the production of the symbol with the lowest tree.
func (g *grammar) lowest(symbol string) int {
	best := g.by[symbol][0]
	for _, rule := range g.by[symbol] {
		if g.heights[rule] < g.heights[best] {
			best = rule
		}
	}
	return best
}

func sampleWord(r *rand.Rand, symbol string) string {
	pick := func(l ...string) string { return l[r.Intn(len(l))] }
	switch symbol {
	case "Low":
		return pick("x", "y", "f", "int", "a_B9", "types")
	case "Name":
		return pick("t", "list", "u_1", "ints")
	case "Up":
		return pick("A", "B", "Nil", "Cons", "True", "Unit", "C_d9")
	case "Var":
		return pick("'a", "'b", "'int", "'fun", "'type")
	case "Int":
		return pick("0", "1", "~1", "42", "~0", "1073741823", "~1073741824")
	}
	return strings.Trim(symbol, `"`)
}
