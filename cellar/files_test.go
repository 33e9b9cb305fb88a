package cellar_test

import (
	"math/rand"
	"strings"
	"testing"

	"cellar/api"
	"cellar/cellar"
)

func TestP5P11OpenedAgainWithoutACrash(t *testing.T) {
	u := newUse(t)
	u.reopen(t)
	u.do(t, put(5, 7), put(99, -1000000000), put(0, 1000000000), put(5, 8), put(6, 0))
	u.reopen(t)
	expectCells(t, u.store, cell(0, 1000000000), cell(5, 8), cell(6, 0), cell(99, -1000000000))
	u.do(t, del(5), install("b", " stop\n007 "), install("a", ""), install("ab", blanks(400)), install("a", "stop = 1 2"))
	u.reopen(t)
	u.reopen(t)
	expectCells(t, u.store, cell(0, 1000000000), cell(6, 0), cell(99, -1000000000))
	expectProcs(t, u.store, proc("a", "stop = 1 2"), proc("ab", blanks(400)), proc("b", " stop\n007 "))
	u.do(t, drop("ab"), put(5, 9), del(0), del(50), put(100, 1), install("A", ""))
	u.reopen(t)
	expectCells(t, u.store, cell(5, 9), cell(6, 0), cell(99, -1000000000))
	expectProcs(t, u.store, proc("a", "stop = 1 2"), proc("b", " stop\n007 "))
}

// A full store, with everything as long as it may be.
func TestP5P12FullStore(t *testing.T) {
	u := newUse(t)
	for key := 0; key <= 99; key++ {
		u.do(t, put(key, -1000000000))
	}
	for _, name := range []string{"a", "b", "c", "d", "e", "f", "ghijklmn", "opqrstuv"} {
		u.do(t, install(name, strings.Repeat("fail ", 80)), install(name, strings.Repeat("\nfail", 80)))
	}
	u.reopen(t)
	u.reopen(t)
	for _, p := range u.store.Procs() {
		u.do(t, install(p.Name, ""), drop(p.Name))
	}
	for key := 0; key <= 99; key++ {
		u.do(t, put(key, -1000000000), del(key))
	}
	u.reopen(t)
	expectCells(t, u.store)
	expectProcs(t, u.store)
}

// However often a store is changed and opened, the files do not grow.
func TestP12OpenKeepsTheFilesShort(t *testing.T) {
	u := newUse(t)
	for i := 0; i < 300; i++ {
		u.do(t, put(i%3, i), install("a", strings.Repeat("fail ", i%80)), del(i%5))
		if i%7 == 0 {
			u.reopen(t)
		}
	}
}

// Every change in every state of a small store, and Open behind it.
func TestP6P7P12ShortUses(t *testing.T) {
	changes := []change{
		put(1, 5), put(1, -1000000000), put(99, 0), del(1), del(2), put(100, 1), put(1, 1000000001), del(-1),
		install("a", "fail"), install("a", ""), install("b", "stop 1"), install("b", "stop"), drop("a"), drop("b"), drop(""),
	}
	for _, first := range changes {
		for _, second := range changes {
			for _, third := range changes {
				u := newUse(t)
				u.do(t, first, second)
				u.reopen(t)
				u.do(t, third)
				u.reopen(t)
			}
		}
	}
}

// A crash at every moment of a use and of the Open behind it, with all that it may leave.
func TestP5P11EveryCrash(t *testing.T) {
	u := newUse(t)
	u.do(t, put(7, 7))
	u.reopen(t)
	for _, c := range []change{
		put(1, 5), install("ab", " stop 1 "), put(1, -7), drop("ab"), del(1), put(7, 1000000000), install("z", ""),
	} {
		acts := u.make(t, c)
		for n := 0; n <= len(acts); n++ {
			crashed := *u
			crashed.disk.play(t, acts[:n])
			crashEverywhere(t, crashed, 2)
		}
		u.disk.play(t, acts)
		openAndCrash(t, *u, false, 2)
	}
}

func TestP5P11EveryCrashOfTheFirstOpen(t *testing.T) {
	openAndCrash(t, use{may: []model{newModel()}}, false, 3)
}

// crashEverywhere: a crash now, with all that it may leave, and then Open.
func crashEverywhere(t *testing.T, u use, depth int) {
	t.Helper()
	for _, left := range u.disk.crashes() {
		next := u
		next.disk = left
		expectFilesAgree(t, left)
		openAndCrash(t, next, true, depth-1)
	}
}

// expectFilesAgree: where both files tell what is held it is the same, so that
// it does not matter which of them a store is opened from.
func expectFilesAgree(t *testing.T, d disk) {
	t.Helper()
	if d.file[0] == "" || d.file[1] == "" {
		return
	}
	x, _, errX := cellar.Open(d.file[0], "")
	y, _, errY := cellar.Open("", d.file[1])
	if errX == api.OK && errY == api.OK && textOf(x) != textOf(y) {
		t.Fatalf("P11: the files %q tell %s and %s", d.file, textOf(x), textOf(y))
	}
}

// openAndCrash: Open, and a crash ahead of, between and behind its acts.
func openAndCrash(t *testing.T, u use, crashed bool, depth int) {
	t.Helper()
	acts := u.open(t, crashed)
	for n := 0; n <= len(acts) && depth > 0; n++ {
		next := u
		next.disk.play(t, acts[:n])
		if n == len(acts) {
			next.opened(t)
		}
		crashEverywhere(t, next, depth)
	}
}

func crash(r *rand.Rand, u *use) {
	for f := range u.disk.file {
		left := u.disk.lasting[f] + r.Intn(len(u.disk.file[f])-u.disk.lasting[f]+1)
		u.disk.file[f], u.disk.lasting[f] = u.disk.file[f][:left], left
	}
}

// reopenWithCrashes: Open, again and again, until all its acts have been played.
func reopenWithCrashes(t *testing.T, r *rand.Rand, u *use, crashed bool) {
	t.Helper()
	acts := u.open(t, crashed)
	for r.Intn(3) == 0 {
		u.disk.play(t, acts[:r.Intn(len(acts))])
		crash(r, u)
		acts = u.open(t, true)
	}
	u.disk.play(t, acts)
	u.opened(t)
}

func TestP1P5AnyFiles(t *testing.T) {
	files := []string{
		"", "x", "\x00", ".", "..", ";.", ";", "p1=2", "p1=2;", "p1=2;.", "p1=2.", "p=2;.", "p1=;.", "p100=1;.", "p-1=1;.", "p1=1000000001;.",
		"p1=-1000000001;.", "p99999999999999999999=1;.", "p1=--1;.", "p1=-;.", "p1;.", "d;.", "d1;.", "d100;.", "d1=;.", "d-;.", "dx;.",
		"ia:;.", "ia;.", "i:;.", "iA:fail;.", "ia:x;.", "ia:" + blanks(401) + ";.", "iabcdefghi:;.", "ra;.", "ia:;ra;.", "ia:;ra;ra;.", "r;.",
		"i", "ia:fail;ib:;ic:;id:;ie:;if:;ig:;ih:;.", "ia:fail;ib:;ic:;id:;ie:;if:;ig:;ih:;ii:;.", "q1;.", ".p1=2;.d1;.ia:", "0:.", "5:S1 c.",
		"9999999999999999999:", "3:S1 .2:Td.", strings.Repeat(".", 100000), strings.Repeat("p1=2;.", 10000), strings.Repeat("p", 1000000),
	}
	for _, a := range files {
		for _, b := range files {
			expectAnyFiles(t, a, b)
		}
	}
}

func TestP1P5SpoiltFiles(t *testing.T) {
	r := rand.New(rand.NewSource(6))
	for i := 0; i < 1000; i++ {
		u := newUse(t)
		for n := r.Intn(20); n > 0; n-- {
			u.do(t, anyChange(r))
		}
		a, b := u.disk.file[0], u.disk.file[1]
		for n := 0; n < 20; n++ {
			expectAnyFiles(t, spoiltFile(r, a), b)
			expectAnyFiles(t, a, spoiltFile(r, a))
			expectAnyFiles(t, spoiltFile(r, spoiltFile(r, a)), spoiltFile(r, a))
		}
	}
	for i := 0; i < 20000; i++ {
		expectAnyFiles(t, anyBytes(r, "pdir:;=.-019ab fail\n\x00\xff"), anyBytes(r, "pdir:;=.-019ab fail\n\x00\xff"))
	}
}

func spoiltFile(r *rand.Rand, file string) string {
	if file == "" {
		return anyBytes(r, "pdir:;=.-019ab fail\n")
	}
	at := r.Intn(len(file))
	mark := pick(r, "p", "d", "i", "r", ":", ";", "=", ".", "-", "0", "9", "a", " ", "\x00", "\xff")
	switch r.Intn(4) {
	case 0:
		return file[:at] + mark + file[at+1:]
	case 1:
		return file[:at] + file[at+1:]
	case 2:
		return file[at:] + file[:at]
	}
	return file[:at] + mark + file[at:]
}

func anyBytes(r *rand.Rand, from string) string {
	bytes := make([]byte, r.Intn(30))
	for i := range bytes {
		bytes[i] = from[r.Intn(len(from))]
	}
	return string(bytes)
}

// expectAnyFiles: no store and ErrDisk, or one that keeps every promise from here on.
func expectAnyFiles(t *testing.T, a, b string) {
	t.Helper()
	x, acts, err := cellar.Open(a, b)
	if x == nil && err == api.ErrDisk && len(acts) == 0 {
		return
	}
	if x == nil || err != api.OK || len(acts) > api.MaxActs {
		t.Fatalf("P5: Open(%.80q, %.80q) = %v, %v, %d", a, b, x, acts, err)
	}
	found := newModel()
	for _, c := range x.Cells() {
		if want := found.make(put(c.Key, c.Value)); want.err != api.OK {
			t.Fatalf("P5: Open(%.80q, %.80q) gives the cell %v", a, b, c)
		}
	}
	for _, p := range x.Procs() {
		if want := found.make(install(p.Name, p.Source)); want.err != api.OK {
			t.Fatalf("P5: Open(%.80q, %.80q) gives the procedure %v", a, b, p)
		}
	}
	if found.text() != textOf(x) {
		t.Fatalf("P5: Open(%.80q, %.80q) gives %s", a, b, textOf(x))
	}
	u := &use{disk: disk{[2]string{a, b}, [2]int{len(a), len(b)}}, store: x, may: []model{found}}
	u.disk.play(t, acts)
	u.opened(t)
	u.do(t, put(3, 4), drop("a"), install("a", "fail"), del(1))
	u.steps(t, syncs, compacts, changes(put(5, 6)), opens)
}

func TestP12ErrorsAnswerNoActs(t *testing.T) {
	u := newUse(t)
	for _, name := range []string{"a", "b", "c", "d", "e", "f", "g", "h"} {
		u.do(t, install(name, ""))
	}
	before, files := textOf(u.store), u.disk
	for _, c := range []change{
		put(100, 1), put(-1, 1), put(1, 1000000001), put(1, -1000000001), del(100), del(-1), install("", ""), install("A", ""),
		install("a", "put"), install("a", blanks(401)), install("i", ""), drop("i"), drop(""), drop("A"),
	} {
		acts := u.make(t, c)
		if len(acts) != 0 || textOf(u.store) != before {
			t.Errorf("P1, P12: behind %+v: %v, %s", c, acts, textOf(u.store))
		}
		u.disk.play(t, acts)
	}
	if u.disk != files {
		t.Errorf("P12: the files are %v, want %v", u.disk, files)
	}
	u.reopen(t)
}

// The least that each change may append: the bound of the shortest texts.
func TestP12ChangesAppendLittle(t *testing.T) {
	for _, name := range []string{"a", "abcdefgh"} {
		for _, size := range []int{0, 1, 399, 400} {
			u := newUse(t)
			u.do(t, install(name, blanks(size)), install(name, ""), install(name, blanks(size)), drop(name))
		}
	}
	u := newUse(t)
	for _, key := range []int{0, 9, 10, 99} {
		for _, value := range []int{0, -1, 1000000000, -1000000000} {
			u.do(t, put(key, value), put(key, value), del(key), del(key))
		}
	}
}
