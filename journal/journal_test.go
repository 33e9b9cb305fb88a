package journal

import (
	"strings"
	"testing"

	"cellar/api"
	"cellar/contents"
	"cellar/source"
)

func TestEntries(t *testing.T) {
	for _, x := range []struct{ got, want string }{
		{Put(5, 7), "p5=7;"}, {Put(99, -1000000000), "p99=-1000000000;"}, {Put(0, 0), "p0=0;"},
		{Del(0), "d0;"}, {Del(99), "d99;"},
		{Install("a", ""), "ia:;"}, {Install("add", " stop = 1\n2"), "iadd: stop = 1\n2;"}, {Drop("add"), "radd;"},
		{Record(""), "."}, {Record(Put(1, 2) + Del(3)), "p1=2;d3;."},
	} {
		if x.got != x.want {
			t.Errorf("%q, want %q", x.got, x.want)
		}
	}
}

// No source holds a byte at which a file is parted.
func TestMarksStandInNoSource(t *testing.T) {
	for b := 0; b < 256; b++ {
		letter := string([]byte{byte(b)})
		for _, src := range []string{letter, "stop " + letter, "stop a" + letter, "stop " + letter + "0", "stop " + letter + " 1 2", "set " + letter} {
			_, _, err := source.Read(src)
			if err == api.OK && strings.ContainsRune(string([]rune{nameEnd, entryEnd, recordEnd}), rune(b)) {
				t.Errorf("the source %q holds a mark", src)
			}
		}
	}
}

func TestRead(t *testing.T) {
	for _, x := range []struct {
		a, b, want string
		file       int
	}{
		{"", "", ".", 1}, {".", "", ".", 0}, {"", ".", ".", 1}, {".", ".", ".", 0},
		{"p1=2;.", "", "p1=2;.", 0}, {"", "p1=2;.", "p1=2;.", 1}, {"", "p1=2;.p1=3;.d1;.", ".", 1},
		{"p1=2;.p1=3;", "", "p1=2;.", 0}, {"p1=2;.p1=3", "", "p1=2;.", 0}, {"p1=2;.p1=3;.", "p1=3", "p1=3;.", 0},
		{"p1=3", ".p1=3;.", "p1=3;.", 1}, {"p1=3;", ".p1=3;.", "p1=3;.", 1}, {"p1=3;.", ".p1=3;.", "p1=3;.", 0},
		{".p9=-5;p2=7;.", "", "p2=7;p9=-5;.", 0}, {".ib:stop = 1 2;ia:;.", "", "ia:;ib:stop = 1 2;.", 0},
		{".ib:fail;.ib:;.ia:;.ra;.", "", "ib:;.", 0}, {".p1=1;d1;p2=2;ix:;rx;.", "", "p2=2;.", 0},
	} {
		held, file, err := Read(x.a, x.b)
		if err != api.OK || All(held) != x.want || file != x.file {
			t.Errorf("Read(%q, %q) = %v, %d, %d, want %q in file %d", x.a, x.b, held, file, err, x.want, x.file)
		}
	}
}

func TestReadOfWrongFiles(t *testing.T) {
	for _, file := range []string{
		"x", "p1=2", ";.", "p1=2.", "p1=2;d1.", "x.", "x;.", "p;.", "p1;.", "p=1;.", "p1=;.", "p1=x;.", "px=1;.", "p1=2=3;.",
		"p100=1;.", "p-1=1;.", "p1=1000000001;.", "p1=-1000000001;.", "p1=10000000000;.", "p1=18446744073709551617;.", "p1=--1;.", "p+1=1;.",
		"d;.", "d100;.", "d-1;.", "dx;.", "ia;.", "i:;.", "iA:;.", "ia:put;.", "ia:stop 1:;.", "ia:" + strings.Repeat(" ", 401) + ";.", "ra;.", "r;.",
		"ia:;ib:;ic:;id:;ie:;if:;ig:;ih:;ii:;.", ".p1=2;.x;.",
	} {
		for _, other := range []string{"", ".", "p1=2;."} {
			if !strings.Contains(file, ".") && other != "" {
				continue
			}
			for _, pair := range [][2]string{{file, other}, {other, file}} {
				held, in, err := Read(pair[0], pair[1])
				if held != nil || in != 0 || err != api.ErrDisk {
					t.Errorf("Read(%q, %q) = %v, %d, %d", pair[0], pair[1], held, in, err)
				}
			}
		}
	}
}

func TestNumberIn(t *testing.T) {
	for _, x := range []struct {
		text string
		want int
	}{{"0", 0}, {"7", 7}, {"-7", -7}, {"1000000000", 1000000000}, {"-1000000000", -1000000000}, {"9999999999", 9999999999}, {"-0", 0}, {"007", 7}} {
		if got, is := numberIn(x.text); got != x.want || !is {
			t.Errorf("numberIn(%q) = %d, %v", x.text, got, is)
		}
	}
	for _, text := range []string{"", "-", "--1", "1-", "+1", " 1", "1 ", "a", "0x1", "/", ":", "12345678901", "-12345678901", "\xff", "٣"} {
		if got, is := numberIn(text); got != 0 || is {
			t.Errorf("numberIn(%q) = %d, %v", text, got, is)
		}
	}
}

// What All writes is read back as it was.
func TestAll(t *testing.T) {
	held := &contents.Contents{}
	for key := 0; key <= api.MaxKey; key++ {
		held.Put(key, key-api.MaxValue)
	}
	for _, name := range []string{"b", "a", "ab", "zzzzzzzz"} {
		held.Install(name, " stop = @ 1\n# 2 ")
	}
	text := All(held)
	again, file, err := Read("", text)
	if err != api.OK || file != 1 || All(again) != text {
		t.Errorf("Read(\"\", %q) = %v, %d, %d", text, again, file, err)
	}
}
