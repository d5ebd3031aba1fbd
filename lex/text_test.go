package lex

import (
	"math"
	"math/rand"
	"slices"
	"strings"
	"testing"
	"unsafe"

	"athanor/api"
)

// checkText holds Text against the second reading of the chapter, and Lex of it against the tokens.
func checkText(t *testing.T, l []api.Token) (string, api.Errno) {
	t.Helper()
	given := slices.Clone(l)
	got, err := Text(l)
	want, wantErr := plainText(l)
	if got != want || err != wantErr {
		t.Fatalf("Text of %.200v is %.80q, %v, not %.80q, %v", l, got, err, want, wantErr)
	}
	if !slices.Equal(given, l) {
		t.Fatalf("Text changed %v to %v", given, l)
	}
	if err == api.OK {
		checkReadAgain(t, got, l)
	}
	return got, err
}

// checkReadAgain: P11.3.
func checkReadAgain(t *testing.T, text string, l []api.Token) {
	t.Helper()
	read, at, err := Lex(text)
	if at != 0 || err != api.OK || !slices.EqualFunc(read, l, alike) {
		t.Fatalf("Lex(%.80q) is %v, %d, %v, not %v", text, read, at, err, l)
	}
}

func alike(a, b api.Token) bool {
	a.At = b.At
	return a == b
}

func words(n int, word string) []api.Token {
	return slices.Repeat([]api.Token{{Kind: api.TokLow, Text: word}}, n)
}

func TestTexts(t *testing.T) {
	l := []api.Token{
		{Kind: api.TokKey, Text: "fun", At: 9}, {Kind: api.TokVar, Text: "fun", At: -1}, {Kind: api.TokInt, N: -7, At: math.MinInt},
		{Kind: api.TokInt}, {Kind: api.TokSign, Text: "->", At: math.MaxInt}, {Kind: api.TokUp, Text: "X"}, {Kind: api.TokLow, Text: "x"},
		{Kind: api.TokSign, Text: "="}, {Kind: api.TokSign, Text: "="}, {Kind: api.TokInt, N: 12}, {Kind: api.TokInt, N: -1 << 30}, {Kind: api.TokInt, N: 1<<30 - 1},
	}
	if s, err := checkText(t, l); s != "fun 'fun ~7 0 -> X x = = 12 ~1073741824 1073741823" || err != api.OK {
		t.Errorf("%q, %v", s, err)
	}
	for _, none := range [][]api.Token{nil, {}, make([]api.Token, 0, 3)} {
		if s, err := checkText(t, none); s != "" || err != api.OK {
			t.Errorf("%q, %v", s, err)
		}
	}
	for _, one := range samples() {
		x := plainOne(one)
		if s, err := checkText(t, []api.Token{x}); err != api.OK || s != one && one != "~0" {
			t.Errorf("%q: %q, %v", one, s, err)
		}
		for _, two := range samples() {
			checkText(t, []api.Token{x, plainOne(two)})
		}
	}
}

// strangers are tokens that are none of Lex's, or just so.
func strangers() []api.Token {
	texts := []string{"", " ", "a", "A", "a ", " a", "a b", "a#", "#", "#a\na", "'a", "''a", "'", "_", "_a", "a_", "fun", "funs", "Fun", " fun ", "fun in", "1", "~1", "~", "0", "->", "=", "==", "= ", "===", "=>", "-", ">", "a\x80", "\xff", "é", "a\x00", "\n",
		strings.Repeat("a", 32), strings.Repeat("a", 33), "A" + strings.Repeat("_", 31), "A" + strings.Repeat("_", 32), strings.Repeat("a", 9000), strings.Repeat("(", 2)}
	texts = append(texts, samples()...)
	numbers := []int{0, 1, -1, 1<<30 - 1, 1 << 30, -1 << 30, -1<<30 - 1, 1 << 31, math.MaxInt, math.MinInt, 1 << 32, -1 << 32}
	var out []api.Token
	for _, kind := range []int{math.MinInt, -6, -1, 0, 1, 2, 3, 4, 5, 6, 7, 8, 256 + 1, 1<<32 + 1, math.MaxInt} {
		for _, text := range texts {
			for _, n := range numbers {
				out = append(out, api.Token{Kind: kind, Text: text, N: n, At: n})
			}
		}
	}
	return out
}

func TestStrangers(t *testing.T) {
	right := api.Token{Kind: api.TokInt, N: 5}
	for _, x := range strangers() {
		want := api.ErrArg
		if plainMade(x) {
			want = api.OK
		}
		for _, l := range [][]api.Token{{x}, {right, x}, {x, right}, {right, x, right}} {
			if s, err := checkText(t, l); err != want || (err != api.OK && s != "") {
				t.Fatalf("%v: %q, %v", l, s, err)
			}
		}
	}
}

func TestTextLimits(t *testing.T) {
	wrong := api.Token{}
	if s, err := checkText(t, words(api.MaxTokens, "a")); len(s) != 2*api.MaxTokens-1 || err != api.OK {
		t.Errorf("%d bytes, %v", len(s), err)
	}
	// 8192 bytes, and one more.
	fits := append(words(api.MaxTokens-1, "a"), api.Token{Kind: api.TokUp, Text: "Ab"})
	if s, err := checkText(t, fits); len(s) != api.MaxSource || err != api.OK {
		t.Errorf("%d bytes, %v", len(s), err)
	}
	for _, last := range []api.Token{{Kind: api.TokLow, Text: "abc"}, {Kind: api.TokVar, Text: "ab"}, {Kind: api.TokInt, N: -12}, {Kind: api.TokInt, N: 100}} {
		if s, err := checkText(t, append(words(api.MaxTokens-1, "a"), last)); s != "" || err != api.ErrLong {
			t.Errorf("%v: %d bytes, %v", last, len(s), err)
		}
	}
	long := words(api.MaxTokens, strings.Repeat("a", 32))
	if s, err := checkText(t, long); s != "" || err != api.ErrLong {
		t.Errorf("%d bytes, %v", len(s), err)
	}
	// A wrong token is told ahead of the length, and too many ahead of both.
	for _, at := range []int{0, 1, api.MaxTokens / 2, api.MaxTokens - 1} {
		l := slices.Clone(long)
		l[at] = wrong
		if s, err := checkText(t, l); s != "" || err != api.ErrArg {
			t.Errorf("%d: %d bytes, %v", at, len(s), err)
		}
		if s, err := checkText(t, append(l, wrong)); s != "" || err != api.ErrMany {
			t.Errorf("%d: %d bytes, %v", at, len(s), err)
		}
	}
	for _, many := range [][]api.Token{words(api.MaxTokens+1, "a"), make([]api.Token, api.MaxTokens+1), make([]api.Token, 3*api.MaxTokens)} {
		if s, err := checkText(t, many); s != "" || err != api.ErrMany {
			t.Errorf("%d bytes, %v", len(s), err)
		}
	}
}

// TestNewMemory: texts of tokens are no pieces of the source, nor of each other; two answers share nothing.
func TestNewMemory(t *testing.T) {
	source := strings.Clone("let x = Abc 'de (f ~5) in print x == x")
	inside := func(part, whole string) bool {
		p, w := uintptr(unsafe.Pointer(unsafe.StringData(part))), uintptr(unsafe.Pointer(unsafe.StringData(whole)))
		return part != "" && whole != "" && p < w+uintptr(len(whole)) && w < p+uintptr(len(part))
	}
	one, _, _ := Lex(source)
	two, _, _ := Lex(source)
	all := append(slices.Clone(one), two...)
	for i, x := range all {
		if inside(x.Text, source) {
			t.Errorf("the text %q is a piece of the source", x.Text)
		}
		for _, y := range all[:i] {
			if inside(x.Text, y.Text) {
				t.Errorf("the texts %q and %q share memory", x.Text, y.Text)
			}
		}
	}
	one[0].Text = "in"
	if three, _, _ := Lex(source); !slices.Equal(two, three) || two[0].Text != "let" {
		t.Errorf("%v, %v", two, three)
	}
	word := []api.Token{{Kind: api.TokLow, Text: strings.Clone("abc")}}
	if s, _ := Text(word); inside(s, word[0].Text) {
		t.Error("the text is its token's")
	}
}

// grow makes a text of tokens, gaps and bytes that are wrong now and then.
func grow(r *rand.Rand) string {
	pieces := append(samples(), " ", " ", " ", "\t", "\n", "\r", "# c\n", "#", strings.Repeat("b", 20), "00", "12345")
	wrong := []string{"'", "~", ">", "!", "\x00", "\x80", "é", "\"", ".", strings.Repeat("c", 33)}
	var out strings.Builder
	for range r.Intn(40) {
		if r.Intn(60) == 0 {
			out.WriteString(wrong[r.Intn(len(wrong))])
		}
		out.WriteString(pieces[r.Intn(len(pieces))])
		if r.Intn(2) == 0 {
			out.WriteByte(' ')
		}
	}
	return out.String()
}

func TestChance(t *testing.T) {
	r := rand.New(rand.NewSource(11))
	whole := 0
	for range 20000 {
		if l, _, err := checkLex(t, grow(r)); err == api.OK {
			whole++
			checkText(t, l)
		}
	}
	if whole < 2000 {
		t.Errorf("only %d texts were right", whole)
	}
	strange := strangers()
	for range 5000 {
		var l []api.Token
		for range r.Intn(20) {
			l = append(l, plainOne(samples()[r.Intn(len(samples()))]))
		}
		if r.Intn(3) == 0 {
			l = append(l, strange[r.Intn(len(strange))])
		}
		checkText(t, l)
	}
}

func FuzzTexts(f *testing.F) {
	r := rand.New(rand.NewSource(1))
	for range 20 {
		f.Add(grow(r))
	}
	f.Fuzz(func(t *testing.T, s string) {
		if l, _, err := checkLex(t, s); err == api.OK {
			checkText(t, l)
		}
	})
}

func FuzzTokens(f *testing.F) {
	for i, x := range strangers() {
		if i%97 == 0 {
			f.Add(x.Kind, x.Text, x.N)
		}
	}
	f.Fuzz(func(t *testing.T, kind int, text string, n int) {
		checkText(t, []api.Token{{Kind: kind, Text: text, N: n}})
		checkText(t, []api.Token{{Kind: api.TokInt}, {Kind: kind, Text: text, N: n, At: n}})
	})
}
