package source

import (
	"strconv"

	"cellar/api"
)

// The kinds of tokens. Those from Plus to Close stand in the order of words.
const (
	Unknown  = 0 // no token of a source
	Number   = 1
	Argument = 2
	Variable = 3
	Plus     = 4
	Minus    = 5
	Times    = 6
	Less     = 7
	Same     = 8
	ValueOf  = 9
	IsThere  = 10
	Set      = 11
	Put      = 12
	Del      = 13
	If       = 14
	While    = 15
	Stop     = 16
	Fail     = 17
	Open     = 18
	Close    = 19
)

var words = [16]string{
	"+", "-", "*", "<", "=", "@", "#",
	"set", "put", "del", "if", "while", "stop", "fail", "{", "}",
}

// Token: Value is what a number says, or which argument or variable is meant; else 0.
type Token struct {
	Kind, Value int
}

func tokenOf(text string) Token {
	for i := 0; i < len(words); i++ {
		if words[i] == text {
			return Token{Kind: Plus + i}
		}
	}
	value, isNumber := numberIn(text)
	if isNumber {
		return Token{Kind: Number, Value: value}
	}
	return namedToken(text)
}

func numberIn(text string) (int, bool) {
	if len(text) == 0 || len(text) > api.MaxDigits {
		return 0, false
	}
	value := 0
	for i := 0; i < len(text); i++ {
		if !isDigit(text[i]) {
			return 0, false
		}
		value = value*10 + int(text[i]-'0')
	}
	return value, true
}

func isDigit(b byte) bool {
	return b >= '0' && b <= '9'
}

// namedToken reads an argument or a variable: a letter and just one digit.
func namedToken(text string) Token {
	if len(text) != 2 || !isDigit(text[1]) {
		return Token{}
	}
	which := int(text[1] - '0')
	if text[0] == 'a' && which < api.MaxArgs {
		return Token{Kind: Argument, Value: which}
	}
	if text[0] == 'v' && which < api.MaxVars {
		return Token{Kind: Variable, Value: which}
	}
	return Token{}
}

func (t Token) text() string {
	switch t.Kind {
	case Number:
		return strconv.Itoa(t.Value)
	case Argument:
		return "a" + strconv.Itoa(t.Value)
	case Variable:
		return "v" + strconv.Itoa(t.Value)
	}
	if t.Kind < Plus || t.Kind > Close {
		return ""
	}
	return words[t.Kind-Plus]
}
