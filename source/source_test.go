package source

import (
	"slices"
	"strings"
	"testing"

	"cellar/api"
)

func TestReadGivesTheTokens(t *testing.T) {
	src := "set v0 007\nput a3 + - * < = 1 2 3 4 5 999999 del @ # v3" +
		" if 0 { stop 000000 } { fail } while a0 { }"
	want := []Token{
		{Set, 0}, {Variable, 0}, {Number, 7},
		{Put, 0}, {Argument, 3}, {Plus, 0}, {Minus, 0}, {Times, 0}, {Less, 0}, {Same, 0},
		{Number, 1}, {Number, 2}, {Number, 3}, {Number, 4}, {Number, 5}, {Number, 999999},
		{Del, 0}, {ValueOf, 0}, {IsThere, 0}, {Variable, 3},
		{If, 0}, {Number, 0}, {Open, 0}, {Stop, 0}, {Number, 0}, {Close, 0},
		{Open, 0}, {Fail, 0}, {Close, 0},
		{While, 0}, {Argument, 0}, {Open, 0}, {Close, 0},
	}
	got, place, err := Read(src)
	if !slices.Equal(got, want) || place != 0 || err != api.OK {
		t.Errorf("Read(%q) = %v, %d, %d, want %v", src, got, place, err, want)
	}
}

func TestReadGivesNoTokensWithAnError(t *testing.T) {
	for _, src := range []string{"fail fail 1", "fail put 1", strings.Repeat(" ", 401)} {
		got, _, err := Read(src)
		if len(got) != 0 || err == api.OK {
			t.Errorf("Read(%.40q) = %v and error %d", src, got, err)
		}
	}
}

func TestTokenOf(t *testing.T) {
	for i, word := range []string{
		"+", "-", "*", "<", "=", "@", "#",
		"set", "put", "del", "if", "while", "stop", "fail", "{", "}",
	} {
		if got := tokenOf(word); got != (Token{Kind: 4 + i}) {
			t.Errorf("tokenOf(%q) = %v", word, got)
		}
	}
	for _, text := range []string{
		"", "0000000", "1000000", "12a", "1.", "-1", "+1", "0x1", "1_0", "a", "v", "a4", "v4", "a9", "a00", "v-",
		"a/", "a:", "v ", "b0", "A0", "V0", "0a", "SET", "sets", "se", "{}", "@#", "==", "\x00", "\xff", "٣",
	} {
		if got := tokenOf(text); got != (Token{}) {
			t.Errorf("tokenOf(%q) = %v, want none", text, got)
		}
	}
}

func TestTextOfEachToken(t *testing.T) {
	for _, text := range []string{"0", "7", "10", "999999", "a0", "a3", "v0", "v3", "+", "#", "set", "fail", "{", "}"} {
		if got := tokenOf(text).text(); got != text {
			t.Errorf("the text of %q is %q", text, got)
		}
	}
	for _, kind := range []int{Unknown, -1, Close + 1, 1 << 62, -1 << 63} {
		if got := (Token{Kind: kind}).text(); got != "" {
			t.Errorf("the text of kind %d is %q", kind, got)
		}
	}
}

func TestSplit(t *testing.T) {
	for _, x := range []struct {
		src  string
		want []string
	}{
		{"", nil}, {" ", nil}, {"\n \n", nil}, {"a", []string{"a"}}, {" a", []string{"a"}}, {"a\n", []string{"a"}},
		{"a b\nc", []string{"a", "b", "c"}}, {"  ab \n\n cd  ", []string{"ab", "cd"}},
		{"a\tb\r\nc\x00\vd", []string{"a\tb\r", "c\x00\vd"}}, {"a\u00a0b", []string{"a\u00a0b"}},
	} {
		if got := split(x.src); !slices.Equal(got, x.want) {
			t.Errorf("split(%q) = %q, want %q", x.src, got, x.want)
		}
	}
}
