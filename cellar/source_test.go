package cellar_test

import (
	"math/rand"
	"strings"
	"testing"

	"cellar/api"
	"cellar/cellar"
)

type checkCase struct {
	src   string
	place int
	err   api.Errno
}

func expectCheck(t *testing.T, cases []checkCase) {
	t.Helper()
	for _, x := range cases {
		place, err := cellar.Check(x.src)
		if place != x.place || err != x.err {
			t.Errorf("Check(%.60q) = %d, %d, want %d, %d", x.src, place, err, x.place, x.err)
		}
	}
}

// expectAsReference holds Check and Show of any string against the reference.
func expectAsReference(t *testing.T, src string) {
	t.Helper()
	wantPlace, wantErr := referenceCheck(src)
	place, err := cellar.Check(src)
	if place != wantPlace || err != wantErr {
		t.Fatalf("Check(%q) = %d, %d, want %d, %d", src, place, err, wantPlace, wantErr)
	}
	wantText := ""
	if wantErr == api.OK {
		wantText = referenceShow(src)
	}
	text, err := cellar.Show(src)
	if text != wantText || err != wantErr {
		t.Fatalf("Show(%q) = %q, %d, want %q, %d", src, text, err, wantText, wantErr)
	}
}

func TestP3Examples(t *testing.T) {
	expectCheck(t, []checkCase{
		{"", 0, api.OK},
		{"set v0 5", 0, api.OK},
		{"set a0 5", 1, api.ErrSource},
		{"put 1", 2, api.ErrSource},
		{"+ 1 2", 0, api.ErrSource},
		{"if 1 { }", 4, api.ErrSource},
		{"while 1 { fail } }", 5, api.ErrSource},
		{"stop 1234567", 1, api.ErrSource},
		{"stop @#3", 1, api.ErrSource},
		{"stop -1", 1, api.ErrSource},
	})
}

func TestP3SourcesThatAreRight(t *testing.T) {
	for _, src := range []string{
		" ", "\n", " \n \n", "fail", "\nfail ", "fail\nfail", "set v0 v0", "set v3 a3", "put a0 v1", "del a1", "stop v2",
		"if a0 { } { }", "if 0 { fail } { }", "if 0 { } { fail }", "if 1 { fail fail } { fail fail } fail",
		"while 1 { }", "while = v0 0 { while # 1 { if @ 2 { stop 3 } { } } } stop 4",
		"stop + - * < = 1 2 3 4 5 6", "stop = < * - + 1 2 3 4 5 6", "stop + + 1 2 + 3 4", "put @ # 1 # @ 2",
	} {
		expectCheck(t, []checkCase{{src, 0, api.OK}})
	}
}

func TestP3FirstTokenThatCannotStand(t *testing.T) {
	expectCheck(t, []checkCase{
		{"{ }", 0, api.ErrSource}, {"}", 0, api.ErrSource}, {"fail }", 1, api.ErrSource}, {"v0", 0, api.ErrSource},
		{"set 1 1", 1, api.ErrSource}, {"set set", 1, api.ErrSource}, {"set v4 1", 1, api.ErrSource},
		{"set v0 fail", 2, api.ErrSource}, {"set v0 1 2", 3, api.ErrSource}, {"put 1 2 3", 3, api.ErrSource},
		{"put 1 put", 2, api.ErrSource}, {"del }", 1, api.ErrSource}, {"stop {", 1, api.ErrSource},
		{"if { } { }", 1, api.ErrSource}, {"if 1 } ", 2, api.ErrSource}, {"if 1 fail", 2, api.ErrSource},
		{"if 1 { } fail", 4, api.ErrSource}, {"if 1 { } }", 4, api.ErrSource}, {"if 1 { } { } { }", 6, api.ErrSource},
		{"if 1 { 2 } { }", 3, api.ErrSource}, {"if 1 { { } } { }", 3, api.ErrSource}, {"if 1 2", 2, api.ErrSource},
		{"while 1 { } { }", 4, api.ErrSource}, {"while 1 fail", 2, api.ErrSource}, {"while 1 { } }", 4, api.ErrSource},
		{"stop + 1 fail", 3, api.ErrSource}, {"stop @ 1 2", 3, api.ErrSource}, {"stop # @", 3, api.ErrSource},
		{"5 @#3 }", 0, api.ErrSource}, {"fail 5 @#3", 1, api.ErrSource}, {"put 1 bad } }", 2, api.ErrSource},
		{"Stop 1", 0, api.ErrSource}, {"stop1", 0, api.ErrSource}, {"while 1{ }", 1, api.ErrSource},
		{"stop a4", 1, api.ErrSource}, {"stop v4", 1, api.ErrSource}, {"stop a00", 1, api.ErrSource},
		{"stop a", 1, api.ErrSource}, {"stop +1", 1, api.ErrSource}, {"stop 1a", 1, api.ErrSource},
		{"fail\tfail", 0, api.ErrSource}, {"fail\r\nfail", 0, api.ErrSource}, {"fail \x00", 1, api.ErrSource},
		{"fail \xff", 1, api.ErrSource}, {"stop ٣", 1, api.ErrSource}, {"fail\u00a0", 0, api.ErrSource},
	})
}

func TestP3SourcesThatEndTooEarly(t *testing.T) {
	expectCheck(t, []checkCase{
		{"set", 1, api.ErrSource}, {"set v0", 2, api.ErrSource}, {"put", 1, api.ErrSource}, {"put 1", 2, api.ErrSource},
		{"del", 1, api.ErrSource}, {"stop ", 1, api.ErrSource}, {"stop +", 2, api.ErrSource}, {"stop + 1", 3, api.ErrSource},
		{"stop @", 2, api.ErrSource}, {"stop - * 1 2", 5, api.ErrSource}, {"if", 1, api.ErrSource}, {"if 1", 2, api.ErrSource},
		{"if 1 {", 3, api.ErrSource}, {"if 1 { fail", 4, api.ErrSource}, {"if 1 { }", 4, api.ErrSource},
		{"if 1 { } {", 5, api.ErrSource}, {"while", 1, api.ErrSource}, {"while 1", 2, api.ErrSource},
		{"while 1 {", 3, api.ErrSource}, {"while 1 { while 2 { }", 7, api.ErrSource}, {"fail\n\nput 1\n", 3, api.ErrSource},
	})
}

func TestP3MaxSource(t *testing.T) {
	fails := strings.Repeat("fail ", 80)
	expectCheck(t, []checkCase{
		{fails, 0, api.OK}, {fails + " ", 0, api.ErrLong}, {fails[:399], 0, api.OK},
		{strings.Repeat(" ", 400), 0, api.OK}, {strings.Repeat(" ", 401), 0, api.ErrLong},
		{strings.Repeat("\n", 400), 0, api.OK}, {strings.Repeat("\n", 401), 0, api.ErrLong},
		{strings.Repeat("x", 400), 0, api.ErrSource}, {strings.Repeat("x", 401), 0, api.ErrLong},
		{strings.Repeat("fail ", 79) + "fai  ", 79, api.ErrSource}, {strings.Repeat("fail ", 79) + "stop ", 80, api.ErrSource},
		{strings.Repeat("é", 200), 0, api.ErrSource}, {strings.Repeat("é", 201), 0, api.ErrLong},
		{strings.Repeat("put 1 ", 1000000), 0, api.ErrLong},
		// As deep as a source can be.
		{"stop " + strings.Repeat("@ ", 197) + "1", 0, api.OK},
		{"stop " + strings.Repeat("+ ", 98) + strings.Repeat("1 ", 99), 0, api.OK},
		{"stop " + strings.Repeat("+ ", 197), 198, api.ErrSource},
		{strings.Repeat("while 1 { ", 33) + strings.Repeat("} ", 33), 0, api.OK},
		{strings.Repeat("while 1 { ", 33) + strings.Repeat("} ", 34), 4 * 33, api.ErrSource},
		{strings.Repeat("while 1 { ", 40), 120, api.ErrSource},
	})
}

func TestP3MaxDigits(t *testing.T) {
	expectCheck(t, []checkCase{
		{"stop 0", 0, api.OK}, {"stop 999999", 0, api.OK}, {"stop 000000", 0, api.OK}, {"stop 000009", 0, api.OK},
		{"stop 1000000", 1, api.ErrSource}, {"stop 0000000", 1, api.ErrSource}, {"stop 0000007", 1, api.ErrSource},
		{"stop 99999999999999999999999999", 1, api.ErrSource}, {"put 1 0000001", 2, api.ErrSource},
	})
}

func TestP4Show(t *testing.T) {
	for _, x := range []struct{ src, want string }{
		{"", ""}, {" \n ", ""}, {"fail", "fail"}, {"\n fail \n", "fail"},
		{"  stop   + 007\na0", "stop + 7 a0"},
		{"stop 0", "stop 0"}, {"stop 00", "stop 0"}, {"stop 000000", "stop 0"}, {"stop 000001", "stop 1"},
		{"stop 010", "stop 10"}, {"stop 100000", "stop 100000"}, {"stop 099990", "stop 99990"}, {"stop 999999", "stop 999999"},
		{"set\nv3\na3", "set v3 a3"},
		{"put  =  0 1  < 00 02 del * - + 3 4 5 @ # 06", "put = 0 1 < 0 2 del * - + 3 4 5 @ # 6"},
		{"if 1 {\n} {\n  fail\n}\nwhile 01 { stop 1 }\n", "if 1 { } { fail } while 1 { stop 1 }"},
		{strings.Repeat("fail ", 80), strings.Repeat("fail ", 79) + "fail"},
		{strings.Repeat(" ", 400), ""},
	} {
		got, err := cellar.Show(x.src)
		if got != x.want || err != api.OK {
			t.Errorf("Show(%.60q) = %q, %d, want %q", x.src, got, err, x.want)
		}
		again, err := cellar.Show(got)
		if again != got || err != api.OK {
			t.Errorf("Show(%.60q) = %q, %d: shown twice it is not the same", got, again, err)
		}
	}
}

func TestP4ShowWithAnError(t *testing.T) {
	for _, x := range []struct {
		src string
		err api.Errno
	}{
		{"fail 5", api.ErrSource}, {"fail put 1", api.ErrSource}, {"while 1{ }", api.ErrSource}, {"stop 0000001", api.ErrSource},
		{"\xff", api.ErrSource}, {strings.Repeat(" ", 401), api.ErrLong}, {strings.Repeat("fail ", 81), api.ErrLong},
	} {
		got, err := cellar.Show(x.src)
		if got != "" || err != x.err {
			t.Errorf("Show(%.60q) = %q, %d, want nothing and %d", x.src, got, err, x.err)
		}
	}
}

// Every row of up to five tokens, one of each sort: all ways to go wrong early.
func TestP3P4EveryShortRowOfTokens(t *testing.T) {
	sorts := []string{"00", "a1", "v2", "+", "@", "set", "put", "stop", "if", "while", "fail", "{", "}", "bad"}
	rows := []string{""}
	for length := 0; length <= 5; length++ {
		var longer []string
		for _, row := range rows {
			expectAsReference(t, row)
			for _, sort := range sorts {
				longer = append(longer, row+sort+" ")
			}
		}
		rows = longer
	}
}

func TestP1AnyBytes(t *testing.T) {
	for a := 0; a < 256; a++ {
		expectAsReference(t, string([]byte{byte(a)}))
		expectAsReference(t, "stop "+string([]byte{byte(a)}))
		for b := 0; b < 256; b++ {
			expectAsReference(t, string([]byte{byte(a), byte(b)}))
			expectAsReference(t, "stop "+string([]byte{byte(a), byte(b)}))
		}
	}
	r := rand.New(rand.NewSource(1))
	for i := 0; i < 20000; i++ {
		bytes := make([]byte, r.Intn(420))
		for j := range bytes {
			bytes[j] = byte(r.Intn(256))
		}
		expectAsReference(t, string(bytes))
	}
	for _, size := range []int{1000, 1000000} {
		expectAsReference(t, strings.Repeat("\x00", size))
	}
}

// Right sources of every size, and what becomes of them when a byte is changed, lost or laid in.
func TestP1P3P4GrownSources(t *testing.T) {
	r := rand.New(rand.NewSource(2))
	right := 0
	for i := 0; i < 20000; i++ {
		src := grownStatements(r, 4)
		expectAsReference(t, src)
		if _, err := cellar.Check(src); err == api.OK {
			right++
		}
		expectAsReference(t, spoilt(r, src))
		expectAsReference(t, src[:r.Intn(len(src)+1)])
	}
	if right < 1000 {
		t.Errorf("only %d of the grown sources were right", right)
	}
}

func TestP2AnswersHangOnTheArgumentAlone(t *testing.T) {
	sources := []string{"stop 007", "while 1 {", "", "put 1 }", strings.Repeat("x", 401), "stop + 1 2", "fail fail"}
	type answer struct {
		place    int
		text     string
		err, say api.Errno
	}
	ask := func(src string) answer {
		place, err := cellar.Check(src)
		text, say := cellar.Show(src)
		return answer{place, text, err, say}
	}
	var first []answer
	for _, src := range sources {
		first = append(first, ask(src))
	}
	for i := range sources {
		for j := range sources {
			if ask(sources[i]) != first[i] || ask(sources[j]) != first[j] {
				t.Errorf("the answers for %.20q and %.20q change with the calls ahead", sources[i], sources[j])
			}
		}
	}
}

func grownStatements(r *rand.Rand, depth int) string {
	src := ""
	for n := r.Intn(4); n > 0; n-- {
		src += grownStatement(r, depth)
	}
	return src
}

func grownStatement(r *rand.Rand, depth int) string {
	kind := r.Intn(7)
	if depth == 0 {
		kind = r.Intn(5)
	}
	switch kind {
	case 0:
		return "set" + gap(r) + "v" + pick(r, "0", "1", "2", "3") + gap(r) + grownExpression(r, 3)
	case 1:
		return "put" + gap(r) + grownExpression(r, 3) + grownExpression(r, 3)
	case 2:
		return "del" + gap(r) + grownExpression(r, 3)
	case 3:
		return "stop" + gap(r) + grownExpression(r, 3)
	case 4:
		return "fail" + gap(r)
	case 5:
		return "if" + gap(r) + grownExpression(r, 2) + grownBraced(r, depth) + grownBraced(r, depth)
	}
	return "while" + gap(r) + grownExpression(r, 2) + grownBraced(r, depth)
}

func grownBraced(r *rand.Rand, depth int) string {
	return "{" + gap(r) + grownStatements(r, depth-1) + "}" + gap(r)
}

func grownExpression(r *rand.Rand, depth int) string {
	kind := r.Intn(5)
	if depth == 0 {
		kind = r.Intn(3)
	}
	switch kind {
	case 0:
		return pick(r, "0", "00", "7", "007", "99", "000100", "999999", "100000", "012345") + gap(r)
	case 1:
		return "a" + pick(r, "0", "1", "2", "3") + gap(r)
	case 2:
		return "v" + pick(r, "0", "1", "2", "3") + gap(r)
	case 3:
		return pick(r, "@", "#") + gap(r) + grownExpression(r, depth-1)
	}
	return pick(r, "+", "-", "*", "<", "=") + gap(r) + grownExpression(r, depth-1) + grownExpression(r, depth-1)
}

func gap(r *rand.Rand) string {
	return pick(r, " ", " ", " ", "\n", "  ", " \n ")
}

func pick(r *rand.Rand, texts ...string) string {
	return texts[r.Intn(len(texts))]
}

func spoilt(r *rand.Rand, src string) string {
	if src == "" {
		return pick(r, "}", "x", "5")
	}
	at := r.Intn(len(src))
	byteOf := pick(r, " ", "\n", "0", "9", "a", "v", "{", "}", "+", "@", "\t", "\x00", "\xff", "f")
	switch r.Intn(3) {
	case 0:
		return src[:at] + byteOf + src[at+1:]
	case 1:
		return src[:at] + src[at+1:]
	}
	return src[:at] + byteOf + src[at:]
}
