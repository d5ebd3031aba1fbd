package lex

import (
	"fmt"
	"slices"
	"strings"
	"testing"

	"athanor/api"
)

// checkLex holds Lex against the second reading of the chapter, and tells what it answered.
func checkLex(t *testing.T, s string) ([]api.Token, int, api.Errno) {
	t.Helper()
	got, at, err := Lex(s)
	want, wantAt, wantErr := plainLex(s)
	if !slices.Equal(got, want) || at != wantAt || err != wantErr {
		t.Fatalf("Lex(%.80q) of %d bytes is %v, %d, %v, not %v, %d, %v", s, len(s), got, at, err, want, wantAt, wantErr)
	}
	return got, at, err
}

// checkFault holds that Lex refuses the text at that place.
func checkFault(t *testing.T, s string, at int, err api.Errno) {
	t.Helper()
	l, gotAt, gotErr := checkLex(t, s)
	if len(l) != 0 || gotAt != at || gotErr != err {
		t.Errorf("Lex(%.80q) of %d bytes is %v, %d, %v, not %d, %v", s, len(s), l, gotAt, gotErr, at, err)
	}
}

// checkTokens holds that these are the text's tokens, each written as its kind and its text or number.
func checkTokens(t *testing.T, s string, want ...string) []api.Token {
	t.Helper()
	l, at, err := checkLex(t, s)
	var got []string
	for _, x := range l {
		got = append(got, brief(x))
	}
	if !slices.Equal(got, want) || at != 0 || err != api.OK {
		t.Errorf("Lex(%.80q) is %q, %d, %v, not %q", s, got, at, err, want)
	}
	return l
}

func brief(x api.Token) string {
	kinds := []string{"", "low ", "up ", "var ", "int ", "key ", "sign "}
	if x.Kind == api.TokInt && x.Text == "" {
		return fmt.Sprint(kinds[4], x.N)
	}
	return kinds[x.Kind] + x.Text + strings.Repeat("!", x.N)
}

func TestExamples(t *testing.T) {
	l := checkTokens(t, "let x=~5 in x->1 # c", "key let", "low x", "sign =", "int -5", "key in", "low x", "sign ->", "int 1")
	places := []int{0, 4, 5, 6, 9, 12, 13, 15}
	for i, x := range l {
		if x.At != places[i] {
			t.Errorf("token %d is at %d, not %d", i, x.At, places[i])
		}
	}
	checkFault(t, "007", 0, api.ErrLex)
	checkTokens(t, "a'b", "low a", "var b")
	checkTokens(t, "===", "sign ==", "sign =")
}

// samples are tokens of every kind, as they are written.
func samples() []string {
	out := strings.Fields(plainKeys + "-> == | = ( ) ; + - * / % < _")
	out = append(out, "a", "z", "aZ0_", "types", "b_", "A", "Z", "Az9_", "Fun", "B_", "'a", "'z", "'fun", "'aZ0_", "'b_")
	return append(out, "0", "~0", "1", "9", "~1", "10", "~90", "1073741823", "~1073741824")
}

// TestPairs: each token alone, right behind each other, and with each gap between.
func TestPairs(t *testing.T) {
	for _, a := range samples() {
		if l, _, _ := checkLex(t, a); len(l) != 1 || l[0].At != 0 {
			t.Errorf("%q: %v", a, l)
		}
		for _, b := range samples() {
			checkLex(t, a+b)
			for _, gap := range []string{" ", "\t", "\r", "\n", "#\n", "# x ' ~ \x80 # \r\n", " \n\t\r \n"} {
				l, at, err := checkLex(t, gap+a+gap+b+gap)
				if len(l) != 2 || l[0].At != len(gap) || l[1].At != 2*len(gap)+len(a) || at != 0 || err != api.OK {
					t.Fatalf("%q, %q with %q between: %v, %d, %v", a, b, gap, l, at, err)
				}
			}
		}
	}
}

func TestWords(t *testing.T) {
	for _, key := range strings.Fields(plainKeys) {
		checkTokens(t, key, "key "+key)
		checkTokens(t, "'"+key, "var "+key)
		for _, more := range []string{"a", "Z", "0", "_", key} {
			checkTokens(t, key+more, "low "+key+more)
		}
		checkTokens(t, "a"+key, "low a"+key)
		checkTokens(t, key[:len(key)-1]+"q", "low "+key[:len(key)-1]+"q")
		checkTokens(t, strings.ToUpper(key), "up "+strings.ToUpper(key))
		checkTokens(t, strings.ToUpper(key[:1])+key[1:], "up "+strings.ToUpper(key[:1])+key[1:])
		checkTokens(t, "_"+key, "sign _", "key "+key)
		checkTokens(t, "0"+key, "int 0", "key "+key)
		checkTokens(t, key+"'"+key, "key "+key, "var "+key)
	}
	checkTokens(t, "letrec", "low letrec")
	checkTokens(t, "let rec", "key let", "key rec")
	checkTokens(t, "a_B9", "low a_B9")
	checkTokens(t, "A_b9'c_D0", "up A_b9", "var c_D0")
	checkFault(t, "aéb", 1, api.ErrLex)
}

func TestSigns(t *testing.T) {
	checkTokens(t, "->-", "sign ->", "sign -")
	checkTokens(t, "-->", "sign -", "sign ->")
	checkTokens(t, "====", "sign ==", "sign ==")
	checkTokens(t, "= = -", "sign =", "sign =", "sign -")
	checkTokens(t, "<-", "sign <", "sign -")
	checkTokens(t, "|;()+*/%__", "sign |", "sign ;", "sign (", "sign )", "sign +", "sign *", "sign /", "sign %", "sign _", "sign _")
	checkFault(t, "=>", 1, api.ErrLex)
	checkFault(t, "- >", 2, api.ErrLex)
	checkTokens(t, "-5", "sign -", "int 5")
	checkFault(t, "-#\n>", 3, api.ErrLex)
}

func TestGaps(t *testing.T) {
	for _, s := range []string{"", " ", "\t", "\r", "\n", "#", "# x", "#\n", "##", "# '\n#~\n", "#\xe2\x28\n", "\r\n#\r"} {
		checkTokens(t, s)
		checkTokens(t, "x"+s, "low x")
		checkTokens(t, s+"\nx", "low x")
	}
	checkTokens(t, "#\rx")
	checkTokens(t, "# x\n y # z", "low y")
	checkTokens(t, "a#b\nc", "low a", "low c")
	checkTokens(t, "1#2\n3", "int 1", "int 3")
	// A beginning of a letter of many bytes does not take the line's end.
	checkTokens(t, "#\xf0\nx", "low x")
	checkTokens(t, "#\xe2\x80\nx", "low x")
	for _, s := range []string{"\v", "\f", "\x00", "\u0085", "\u00a0", "\u2028", "\ufeff"} {
		checkFault(t, " "+s, 1, api.ErrLex)
	}
}

// TestBytes: every byte alone, and behind and ahead of each token.
func TestBytes(t *testing.T) {
	begins := "\t\n\r #abcdefghijklmnopqrstuvwxyzABCDEFGHIJKLMNOPQRSTUVWXYZ0123456789|=();+-*/%<_"
	for b := range 256 {
		s := string([]byte{byte(b)})
		if strings.Contains(begins, s) {
			if _, _, err := checkLex(t, s); err != api.OK {
				t.Errorf("%q: %v", s, err)
			}
		} else {
			checkFault(t, s, 0, api.ErrLex)
			checkFault(t, "ab "+s, 3, api.ErrLex)
			checkFault(t, s+"Ab", 0, api.ErrLex)
			checkFault(t, s+" 1", 0, api.ErrLex)
		}
		for _, x := range samples() {
			checkLex(t, x+s)
			checkLex(t, s+x)
			checkLex(t, x+s+x)
		}
	}
	for _, s := range []string{"é", "ａ", "Ω", "\xc3", "\xe2\x82", "\xff\xfe", "\xed\xa0\x80", "\xc0\x80", "\xf4\x90\x80\x80", "\ufffd", "٣"} {
		checkFault(t, s, 0, api.ErrLex)
		checkFault(t, "a"+s, 1, api.ErrLex)
		checkFault(t, "A"+s, 1, api.ErrLex)
		checkFault(t, "1"+s, 1, api.ErrLex)
		checkFault(t, "'"+s, 0, api.ErrLex)
		checkFault(t, "~"+s, 0, api.ErrLex)
		checkFault(t, "'a"+s, 2, api.ErrLex)
	}
}

func TestMarks(t *testing.T) {
	for _, s := range []string{"", "A", "1", "_", "'", "'a", " a", "~", "\n", "#\na", "->", "("} {
		checkFault(t, "'"+s, 0, api.ErrLex)
		checkFault(t, "x 1 '"+s, 4, api.ErrLex)
	}
	for _, s := range []string{"", "a", "A", "_", "~", "~1", " 1", "-", "-1", "'", "\n1", "#\n1", "->", "("} {
		checkFault(t, "~"+s, 0, api.ErrLex)
		checkFault(t, "x 1 ~"+s, 4, api.ErrLex)
	}
	checkTokens(t, "'a'b", "var a", "var b")
	checkTokens(t, "1~1~0", "int 1", "int -1", "int 0")
	checkTokens(t, "a~1'b", "low a", "int -1", "var b")
	// What is wrong further left is told, though more is wrong behind it.
	checkFault(t, "! ~", 0, api.ErrLex)
	checkFault(t, strings.Repeat("a", 33)+" 007", 0, api.ErrLong)
	checkFault(t, "007 "+strings.Repeat("a", 33), 0, api.ErrLex)
}

func TestNumbers(t *testing.T) {
	for _, n := range []int{0, 1, 9, 10, 99, 100, 1 << 29, 1<<30 - 2, 1<<30 - 1} {
		checkTokens(t, fmt.Sprint(n), fmt.Sprint("int ", n))
		checkTokens(t, fmt.Sprint("~", n), fmt.Sprint("int ", -n))
		checkTokens(t, fmt.Sprint(n, "x"), fmt.Sprint("int ", n), "low x")
		checkFault(t, fmt.Sprint("0", n), 0, api.ErrLex)
		checkFault(t, fmt.Sprint("~0", n), 0, api.ErrLex)
		checkFault(t, fmt.Sprint("a 00", n), 2, api.ErrLex)
	}
	checkTokens(t, "~1073741824", "int -1073741824")
	for _, s := range []string{"1073741824", "~1073741825", "1073741830", "~1073741830", "2147483647", "2147483648", "~2147483648", "4294967296", "9223372036854775807", "9223372036854775808", "~9223372036854775808", "18446744073709551616", "18446744073709551617", "~18446744073709551616", "10737418240", "~10737418240", "~10737418241"} {
		checkFault(t, s, 0, api.ErrLex)
		checkFault(t, "f("+s+")", 2, api.ErrLex)
	}
	for digits := 1; digits < 8000; digits += 1 + digits/3 {
		for _, s := range []string{"1" + strings.Repeat("0", digits), strings.Repeat("9", digits), "0" + strings.Repeat("0", digits), strings.Repeat("0", digits) + "1", "1073741824" + strings.Repeat("0", digits)} {
			checkLex(t, s)
			checkLex(t, "~"+s)
		}
	}
	for n := -1100; n <= 1100; n++ {
		checkLex(t, strings.Replace(fmt.Sprint(n), "-", "~", 1))
		checkLex(t, strings.Replace(fmt.Sprint(1<<30+n), "-", "~", 1))
		checkLex(t, strings.Replace(fmt.Sprint(-1<<30+n), "-", "~", 1))
	}
}

func TestLongWords(t *testing.T) {
	for _, word := range []string{"a", "Z", "'z"} {
		for _, part := range []string{"a", "Z", "9", "_"} {
			whole := word + strings.Repeat(part, 31)
			checkTokens(t, whole, brief(plainOne(whole)))
			checkTokens(t, whole+"'b", brief(plainOne(whole)), "var b")
			checkFault(t, whole+part, 0, api.ErrLong)
			checkFault(t, "# c\n fun "+whole+part, 9, api.ErrLong)
			checkFault(t, word+strings.Repeat(part, 8000), 0, api.ErrLong)
		}
	}
	checkFault(t, strings.Repeat("print", 7), 0, api.ErrLong)
	checkTokens(t, strings.Repeat("_", 33), slices.Repeat([]string{"sign _"}, 33)...)
}

func plainOne(s string) api.Token {
	token, _, _ := plainToken(s)
	return token
}

func TestSourceLimit(t *testing.T) {
	for _, unit := range []string{" ", "#", "# \n", "\n", "a ", "ab ", "1 # \xff\n", "'a  "} {
		full := strings.Repeat(unit, api.MaxSource/len(unit)+1)[:api.MaxSource]
		if _, at, err := checkLex(t, full); at != 0 || err != api.OK {
			t.Errorf("%q: %d, %v", unit, at, err)
		}
		checkFault(t, full+" ", 0, api.ErrLong)
		checkFault(t, full+full, 0, api.ErrLong)
	}
	// Length goes ahead of all that is wrong within.
	checkFault(t, "!"+strings.Repeat(" ", api.MaxSource), 0, api.ErrLong)
	checkFault(t, strings.Repeat(" ", api.MaxSource-1)+"!", api.MaxSource-1, api.ErrLex)
	checkFault(t, strings.Repeat(" ", api.MaxSource-1)+"~", api.MaxSource-1, api.ErrLex)
	checkTokens(t, strings.Repeat(" ", api.MaxSource-1)+"x", "low x")
	checkFault(t, strings.Repeat("(", api.MaxSource+1), 0, api.ErrLong)
}

func TestTokenLimit(t *testing.T) {
	full := strings.Repeat("(", api.MaxTokens)
	for _, s := range []string{full, full + " ", full + "# x", strings.Repeat("a ", api.MaxTokens)} {
		if l, at, err := checkLex(t, s); len(l) != api.MaxTokens || at != 0 || err != api.OK {
			t.Errorf("%d tokens, %d, %v", len(l), at, err)
		}
	}
	for _, one := range samples() {
		checkFault(t, full+one, api.MaxTokens, api.ErrMany)
		checkFault(t, full+" #\n"+one, api.MaxTokens+3, api.ErrMany)
		checkFault(t, full+one+" !", api.MaxTokens, api.ErrMany)
	}
	for _, wrong := range []string{"!", "'", "~", "'A", "~x", "007", "1073741824", "\x80"} {
		checkFault(t, full+wrong, api.MaxTokens, api.ErrLex)
		checkFault(t, full+" "+wrong, api.MaxTokens+1, api.ErrLex)
	}
	checkFault(t, full+strings.Repeat("a", 33), api.MaxTokens, api.ErrLong)
	checkFault(t, full+"'"+strings.Repeat("a", 33), api.MaxTokens, api.ErrLong)
}
