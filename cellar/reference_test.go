package cellar_test

import (
	"regexp"
	"strings"

	"cellar/api"
)

// reference works out Check a second way, straight down the grammar of the
// document, so that the two can be held against each other.
type reference struct {
	tokens []string
	at     int
}

var (
	referenceNumber = regexp.MustCompile(`^[0-9]{1,6}$`)
	referenceAtom   = regexp.MustCompile(`^([0-9]{1,6}|[av][0-3])$`)
	referenceVar    = regexp.MustCompile(`^v[0-3]$`)
	referenceSpace  = regexp.MustCompile(`[ \n]+`)
)

func referenceTokens(src string) []string {
	var tokens []string
	for _, text := range referenceSpace.Split(src, -1) {
		if text != "" {
			tokens = append(tokens, text)
		}
	}
	return tokens
}

func referenceCheck(src string) (int, api.Errno) {
	if len(src) > 400 {
		return 0, api.ErrLong
	}
	r := &reference{tokens: referenceTokens(src)}
	for r.at < len(r.tokens) {
		if !r.statement() {
			return r.at, api.ErrSource
		}
	}
	return 0, api.OK
}

func referenceShow(src string) string {
	tokens := referenceTokens(src)
	for i, text := range tokens {
		if referenceNumber.MatchString(text) {
			tokens[i] = strings.TrimLeft(text[:len(text)-1], "0") + text[len(text)-1:]
		}
	}
	return strings.Join(tokens, " ")
}

func (r *reference) peek() string {
	if r.at < len(r.tokens) {
		return r.tokens[r.at]
	}
	return ""
}

func (r *reference) goOn(may bool) bool {
	if may {
		r.at++
	}
	return may
}

func (r *reference) statement() bool {
	switch r.peek() {
	case "set":
		r.at++
		return r.goOn(referenceVar.MatchString(r.peek())) && r.expression()
	case "put":
		r.at++
		return r.expression() && r.expression()
	case "del", "stop":
		r.at++
		return r.expression()
	case "if":
		r.at++
		return r.expression() && r.braced() && r.braced()
	case "while":
		r.at++
		return r.expression() && r.braced()
	}
	return r.goOn(r.peek() == "fail")
}

func (r *reference) braced() bool {
	if !r.goOn(r.peek() == "{") {
		return false
	}
	for r.peek() != "}" {
		if !r.statement() {
			return false
		}
	}
	return r.goOn(true)
}

func (r *reference) expression() bool {
	switch r.peek() {
	case "+", "-", "*", "<", "=":
		r.at++
		return r.expression() && r.expression()
	case "@", "#":
		r.at++
		return r.expression()
	}
	return r.goOn(referenceAtom.MatchString(r.peek()))
}
