// Package source reads the sources of procedures: their tokens, and how these may follow one another.
package source

import "cellar/api"

// Read gives the tokens of a source. With ErrSource it tells the number of the
// first token that cannot stand, or how many there are if more had to come.
func Read(src string) ([]Token, int, api.Errno) {
	if len(src) > api.MaxSource {
		return nil, 0, api.ErrLong
	}
	texts := split(src)
	var tokens []Token
	var w wants
	w.push(wantBody)
	for i := 0; i < len(texts); i++ {
		token := tokenOf(texts[i])
		stands := w.take(token.Kind)
		if !stands {
			return nil, i, api.ErrSource
		}
		tokens = append(tokens, token)
	}
	if !w.mayEnd() {
		return nil, len(texts), api.ErrSource
	}
	return tokens, 0, api.OK
}

// Write gives the text of tokens, one blank between each two.
func Write(tokens []Token) string {
	line := ""
	for i := 0; i < len(tokens); i++ {
		if i > 0 {
			line += " "
		}
		line += tokens[i].text()
	}
	return line
}

func split(src string) []string {
	var texts []string
	start := 0
	for i := 0; i < len(src); i++ {
		if !isSpace(src[i]) {
			continue
		}
		if i > start {
			texts = append(texts, src[start:i])
		}
		start = i + 1
	}
	if len(src) > start {
		texts = append(texts, src[start:])
	}
	return texts
}

// isSpace: blank and newline alone part tokens; a tab is a byte of a token.
func isSpace(b byte) bool {
	return b == ' ' || b == '\n'
}
