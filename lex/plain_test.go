package lex

import (
	"math/big"
	"regexp"
	"slices"
	"strings"

	"athanor/api"
)

// A second reading of the chapter: each kind is a pattern, and the one that fits with most bytes is the token. Nothing of the program's own is asked.
var (
	plainGap  = regexp.MustCompile(`^(?:[\t\n\r ]|#[^\n]*)*`)
	plainWord = regexp.MustCompile(`^[a-z][a-zA-Z0-9_]*`)
	plainUp   = regexp.MustCompile(`^[A-Z][a-zA-Z0-9_]*`)
	plainVar  = regexp.MustCompile(`^'[a-z][a-zA-Z0-9_]*`)
	plainInt  = regexp.MustCompile(`^~?[0-9]+`)
	plainSign = regexp.MustCompile(`^(?:->|==|[|=();+\-*/%<_])`)
	plainZero = regexp.MustCompile(`^~?0[0-9]`)
)

const plainKeys = " type fun let rec in case of end if then else print "

func plainLex(s string) ([]api.Token, int, api.Errno) {
	if len(s) > 8192 {
		return nil, 0, api.ErrLong
	}
	var out []api.Token
	at := 0
	for {
		at += len(plainGap.FindString(s[at:]))
		if at == len(s) {
			return out, 0, api.OK
		}
		token, length, err := plainToken(s[at:])
		if err == api.OK && len(out) == 4096 {
			err = api.ErrMany
		}
		if err != api.OK {
			return nil, at, err
		}
		token.At = at
		out = append(out, token)
		at += length
	}
}

func plainToken(s string) (api.Token, int, api.Errno) {
	token := api.Token{}
	text := ""
	switch {
	case plainWord.MatchString(s):
		text = plainWord.FindString(s)
		token = api.Token{Kind: 1, Text: text}
		if strings.Contains(plainKeys, " "+text+" ") {
			token.Kind = 5
		}
	case plainUp.MatchString(s):
		text = plainUp.FindString(s)
		token = api.Token{Kind: 2, Text: text}
	case plainVar.MatchString(s):
		text = plainVar.FindString(s)
		token = api.Token{Kind: 3, Text: text[1:]}
	case plainInt.MatchString(s):
		text = plainInt.FindString(s)
		n, _ := new(big.Int).SetString(strings.Replace(text, "~", "-", 1), 10)
		if plainZero.MatchString(text) || n.Cmp(big.NewInt(-1<<30)) < 0 || n.Cmp(big.NewInt(1<<30-1)) > 0 {
			return token, 0, api.ErrLex
		}
		token = api.Token{Kind: 4, N: int(n.Int64())}
	case plainSign.MatchString(s):
		text = plainSign.FindString(s)
		token = api.Token{Kind: 6, Text: text}
	default:
		return token, 0, api.ErrLex
	}
	if len(token.Text) > 32 {
		return api.Token{}, 0, api.ErrLong
	}
	return token, len(text), api.OK
}

// plainMade tells field by field whether Lex may make a token.
func plainMade(x api.Token) bool {
	key := strings.Contains(plainKeys, " "+x.Text+" ") && x.Text != ""
	switch x.Kind {
	case 1, 2, 3:
		shape := plainWord
		if x.Kind == 2 {
			shape = plainUp
		}
		return x.N == 0 && len(x.Text) <= 32 && x.Text != "" && shape.FindString(x.Text) == x.Text && !(x.Kind == 1 && key)
	case 4:
		return x.Text == "" && x.N >= -1<<30 && x.N < 1<<30
	case 5:
		return x.N == 0 && key && !strings.Contains(x.Text, " ")
	case 6:
		return x.N == 0 && x.Text != "" && plainSign.FindString(x.Text) == x.Text
	}
	return false
}

func plainText(l []api.Token) (string, api.Errno) {
	if len(l) > 4096 {
		return "", api.ErrMany
	}
	if slices.ContainsFunc(l, func(x api.Token) bool { return !plainMade(x) }) {
		return "", api.ErrArg
	}
	var words []string
	for _, x := range l {
		switch {
		case x.Kind == 3:
			words = append(words, "'"+x.Text)
		case x.Kind == 4 && x.N < 0:
			words = append(words, "~"+big.NewInt(int64(-x.N)).String())
		case x.Kind == 4:
			words = append(words, big.NewInt(int64(x.N)).String())
		default:
			words = append(words, x.Text)
		}
	}
	text := strings.Join(words, " ")
	if len(text) > 8192 {
		return "", api.ErrLong
	}
	return text, api.OK
}
