package cellar_test

import (
	"fmt"
	"math"
	"math/rand"
	"slices"
	"strings"
	"testing"
	"unsafe"

	"cellar/api"
	"cellar/cellar"
)

func put(key, value int) change         { return change{kind: "put", key: key, value: value} }
func del(key int) change                { return change{kind: "del", key: key} }
func install(name, src string) change   { return change{kind: "install", name: name, src: src} }
func drop(name string) change           { return change{kind: "drop", name: name} }
func blanks(n int) string               { return strings.Repeat(" ", n) }
func cell(key, value int) api.Cell      { return api.Cell{Key: key, Value: value} }
func proc(name, source string) api.Proc { return api.Proc{Name: name, Source: source} }

// edges: numbers at and beyond all bounds.
var edges = []int{
	math.MinInt, math.MinInt + 1, -1 << 32, -1000000001, -1000000000, -999999999, -100, -99, -1, 0, 1, 50, 98, 99, 100, 101,
	255, 256, 999999999, 1000000000, 1000000001, 1<<32 + 5, 1 << 62, math.MaxInt - 1, math.MaxInt,
}

func expectGet(t *testing.T, x *cellar.Store, key, value int, there bool, err api.Errno) {
	t.Helper()
	gotValue, gotThere, gotErr := x.Get(key)
	if gotValue != value || gotThere != there || gotErr != err {
		t.Errorf("P6: Get(%d) = %d, %v, %d, want %d, %v, %d", key, gotValue, gotThere, gotErr, value, there, err)
	}
}

func expectCells(t *testing.T, x *cellar.Store, want ...api.Cell) {
	t.Helper()
	if got := x.Cells(); !slices.Equal(got, want) {
		t.Errorf("P6: Cells() = %v, want %v", got, want)
	}
}

func expectProcs(t *testing.T, x *cellar.Store, want ...api.Proc) {
	t.Helper()
	if got := x.Procs(); !slices.Equal(got, want) {
		t.Errorf("P7: Procs() = %q, want %q", got, want)
	}
}

func expectPut(t *testing.T, x *cellar.Store, key, value int, want api.Errno) {
	t.Helper()
	if acts, err := x.Put(key, value); err != want || (err != api.OK && len(acts) > 0) {
		t.Errorf("P6: Put(%d, %d) = %v, %d, want %d", key, value, acts, err, want)
	}
}

func expectDel(t *testing.T, x *cellar.Store, key int, want api.Errno) {
	t.Helper()
	if acts, err := x.Del(key); err != want || (err != api.OK && len(acts) > 0) {
		t.Errorf("P6: Del(%d) = %v, %d, want %d", key, acts, err, want)
	}
}

func expectInstall(t *testing.T, x *cellar.Store, name, src string, wantPlace int, want api.Errno) {
	t.Helper()
	if place, acts, err := x.Install(name, src); place != wantPlace || err != want || (err != api.OK && len(acts) > 0) {
		t.Errorf("P7: Install(%.20q, %.20q) = %d, %v, %d, want %d, %d", name, src, place, acts, err, wantPlace, want)
	}
}

func expectDrop(t *testing.T, x *cellar.Store, name string, want api.Errno) {
	t.Helper()
	if acts, err := x.Drop(name); err != want || (err != api.OK && len(acts) > 0) {
		t.Errorf("P7: Drop(%.20q) = %v, %d, want %d", name, acts, err, want)
	}
}

func TestP5FirstOpen(t *testing.T) {
	x := newUse(t).store
	expectCells(t, x)
	expectProcs(t, x)
	for key := 0; key <= 99; key++ {
		expectGet(t, x, key, 0, false, api.OK)
	}
}

func TestP6Example(t *testing.T) {
	x := newUse(t).store
	expectPut(t, x, 5, 7, api.OK)
	expectGet(t, x, 5, 7, true, api.OK)
	expectGet(t, x, 6, 0, false, api.OK)
	expectPut(t, x, 100, 1, api.ErrKey)
	expectPut(t, x, 5, 1000000001, api.ErrArg)
	expectDel(t, x, 6, api.OK)
	expectCells(t, x, cell(5, 7))
}

func TestP6EveryEdge(t *testing.T) {
	for _, key := range edges {
		isKey := key >= 0 && key <= 99
		for _, value := range edges {
			x := newUse(t).store
			want := api.OK
			if value < -1000000000 || value > 1000000000 {
				want = api.ErrArg
			}
			if !isKey {
				want = api.ErrKey
			}
			expectPut(t, x, key, value, want)
			if want == api.OK {
				expectGet(t, x, key, value, true, api.OK)
				expectCells(t, x, cell(key, value))
				expectDel(t, x, key, api.OK)
				expectGet(t, x, key, 0, false, api.OK)
			}
			expectCells(t, x)
		}
		if !isKey {
			x := newUse(t).store
			expectGet(t, x, key, 0, false, api.ErrKey)
			expectDel(t, x, key, api.ErrKey)
		}
	}
}

func TestP6EveryCell(t *testing.T) {
	x := newUse(t).store
	var want []api.Cell
	for key := 99; key >= 0; key-- {
		expectPut(t, x, key, key*key-5000, api.OK)
		want = append([]api.Cell{cell(key, key*key-5000)}, want...)
		expectCells(t, x, want...)
	}
	for key := 0; key <= 99; key++ {
		expectGet(t, x, key, key*key-5000, true, api.OK)
		expectDel(t, x, key, api.OK)
		expectDel(t, x, key, api.OK)
		expectCells(t, x, want[key+1:]...)
	}
}

// A cell with the value 0 is there.
func TestP6Nought(t *testing.T) {
	x := newUse(t).store
	expectPut(t, x, 0, 0, api.OK)
	expectGet(t, x, 0, 0, true, api.OK)
	expectCells(t, x, cell(0, 0))
	expectPut(t, x, 0, -1, api.OK)
	expectPut(t, x, 0, 1000000001, api.ErrArg)
	expectCells(t, x, cell(0, -1))
}

func TestP7Example(t *testing.T) {
	x := newUse(t).store
	expectInstall(t, x, "add", "put 1 + @ 1 a0 stop @ 1", 0, api.OK)
	expectInstall(t, x, "Add", "", 0, api.ErrName)
	expectInstall(t, x, "add", "put", 1, api.ErrSource)
	expectProcs(t, x, proc("add", "put 1 + @ 1 a0 stop @ 1"))
}

func TestP7Names(t *testing.T) {
	for _, name := range []string{"a", "z", "az", "za", "abcdefgh", "stuvwxyz", "zzzzzzzz", "set", "fail"} {
		x := newUse(t).store
		expectDrop(t, x, name, api.ErrName)
		expectInstall(t, x, name, "fail", 0, api.OK)
		expectProcs(t, x, proc(name, "fail"))
		expectDrop(t, x, name, api.OK)
		expectProcs(t, x)
		expectDrop(t, x, name, api.ErrName)
	}
	x := newUse(t).store
	expectInstall(t, x, "a", "stop 1", 0, api.OK)
	for _, name := range []string{
		"", " ", "A", "Z", "`", "{", "0", "a0", "a b", " a", "a ", "a\n", "a\x00", "\x00", "\xff", "é", "a.", "a;", "a:", "a=",
		"abcdefghi", "abcdefgH", "éé", blanks(8), strings.Repeat("a", 9), strings.Repeat("a", 1000000),
	} {
		expectInstall(t, x, name, "fail", 0, api.ErrName)
		expectInstall(t, x, name, "put", 0, api.ErrName)
		expectInstall(t, x, name, blanks(401), 0, api.ErrName)
		expectDrop(t, x, name, api.ErrName)
		expectProcs(t, x, proc("a", "stop 1"))
	}
	for b := 0; b < 256; b++ {
		want := api.ErrName
		if b >= 'a' && b <= 'z' {
			want = api.OK
		}
		expectInstall(t, newUse(t).store, string([]byte{byte(b)}), "", 0, want)
		expectInstall(t, newUse(t).store, "x"+string([]byte{byte(b)}), "", 0, want)
	}
}

func TestP7SourcesStayAsTheyAre(t *testing.T) {
	sources := []string{
		"", " ", "\n", " stop\n007 ", "stop  +\n\n1 000002 ", "\n\nput 1 2", blanks(400), strings.Repeat("\n", 400), strings.Repeat("fail ", 80),
		"if = 1 2 { set v0 * a0 a1 } { del # @ 3 } while < v0 3 { put - 1 2 + 3 4 }",
	}
	for _, first := range sources {
		for _, second := range sources {
			u := newUse(t)
			u.do(t, install("p", first), install("q", second), install("p", second))
			expectProcs(t, u.store, proc("p", second), proc("q", second))
			u.reopen(t)
			expectProcs(t, u.store, proc("p", second), proc("q", second))
		}
	}
}

// What cannot be kept leaves what is kept as it is, and tells the place that Check tells.
func TestP7WrongSources(t *testing.T) {
	for _, src := range []string{
		"put", "put 1", "fail 5", "+ 1 2", "if 1 { }", "while 1 { fail } }", "stop 1234567", "stop @#3", "stop -1",
		"stop 1;", "stop 1.", "stop 1:", ".", ";", "p1=2;.", blanks(401), strings.Repeat("x", 401), strings.Repeat("x", 400), "\xff", "fail\t",
	} {
		place, err := cellar.Check(src)
		if err == api.OK {
			t.Errorf("%q is a source", src)
		}
		x := newUse(t).store
		expectInstall(t, x, "a", src, place, err)
		expectProcs(t, x)
		expectInstall(t, x, "a", " fail", 0, api.OK)
		expectInstall(t, x, "a", src, place, err)
		expectProcs(t, x, proc("a", " fail"))
	}
}

func TestP7MaxProcs(t *testing.T) {
	x := newUse(t).store
	var want []api.Proc
	for _, name := range []string{"a", "aa", "aaaaaaaa", "ab", "b", "m", "y", "zzzzzzzz"} {
		want = append(want, proc(name, "stop "+fmt.Sprint(len(want))))
	}
	for i := range want {
		p := want[(i*3+5)%8]
		expectInstall(t, x, p.Name, p.Source, 0, api.OK)
	}
	expectProcs(t, x, want...)
	expectInstall(t, x, "c", "", 0, api.ErrFull)
	expectInstall(t, x, "c", "put", 1, api.ErrSource)
	expectInstall(t, x, "c", blanks(401), 0, api.ErrLong)
	expectInstall(t, x, "C", "", 0, api.ErrName)
	expectProcs(t, x, want...)
	for i := range want {
		want[i].Source = "fail"
		expectInstall(t, x, want[i].Name, "fail", 0, api.OK)
		expectProcs(t, x, want...)
	}
	expectDrop(t, x, "ab", api.OK)
	expectInstall(t, x, "c", "", 0, api.OK)
	expectInstall(t, x, "ab", "", 0, api.ErrFull)
	want = slices.Insert(slices.Delete(want, 3, 4), 4, proc("c", ""))
	expectProcs(t, x, want...)
}

// A name that another one begins with stands ahead of that one.
func TestP7NamesRise(t *testing.T) {
	names := []string{"a", "aa", "ab", "abc", "b", "ba", "z"}
	r := rand.New(rand.NewSource(3))
	for i := 0; i < 500; i++ {
		x := newUse(t).store
		var want []api.Proc
		for _, at := range r.Perm(len(names)) {
			expectInstall(t, x, names[at], "", 0, api.OK)
		}
		for _, name := range names {
			want = append(want, proc(name, ""))
		}
		expectProcs(t, x, want...)
		gone := r.Intn(len(names))
		expectDrop(t, x, names[gone], api.OK)
		expectProcs(t, x, slices.Delete(want, gone, gone+1)...)
	}
}

// Cells and procedures do not touch one another.
func TestP6P7Apart(t *testing.T) {
	x := newUse(t).store
	expectPut(t, x, 1, 2, api.OK)
	expectInstall(t, x, "a", "put 3 4", 0, api.OK)
	expectCells(t, x, cell(1, 2))
	expectDel(t, x, 1, api.OK)
	expectProcs(t, x, proc("a", "put 3 4"))
	expectPut(t, x, 5, 6, api.OK)
	expectDrop(t, x, "a", api.OK)
	expectCells(t, x, cell(5, 6))
}

func TestP2StoresDoNotDisturbOneAnother(t *testing.T) {
	r := rand.New(rand.NewSource(4))
	uses := []*use{newUse(t), newUse(t), newUse(t)}
	for i := 0; i < 3000; i++ {
		// Each change is held against this use's own model alone.
		u := uses[r.Intn(len(uses))]
		u.do(t, anyChange(r))
		for _, other := range uses {
			if textOf(other.store) != other.now().text() {
				t.Fatalf("P2: a store holds %s, want %s", textOf(other.store), other.now().text())
			}
		}
	}
}

// Two stores that are opened with the same files and asked the same answer the same.
func TestP2SameCallsSameAnswers(t *testing.T) {
	r := rand.New(rand.NewSource(5))
	a, b := newUse(t), newUse(t)
	for i := 0; i < 3000; i++ {
		c := anyChange(r)
		if first, second := a.make(t, c), b.make(t, c); !slices.Equal(first, second) {
			t.Fatalf("P2: %+v answers %v and %v", c, first, second)
		} else {
			a.disk.play(t, first)
			b.disk.play(t, second)
		}
		if i%50 == 0 {
			a.reopen(t)
			b.reopen(t)
		}
		if a.disk != b.disk {
			t.Fatalf("P2: the same calls leave %v and %v", a.disk, b.disk)
		}
	}
}

// spoil writes into a list and its spare room.
func spoil[T any](list []T, with T) {
	list = list[:cap(list)]
	for i := range list {
		list[i] = with
	}
}

func TestP2ListsAreTheCallers(t *testing.T) {
	u := newUse(t)
	x := u.store
	for i := 0; i < 8; i++ {
		cells, procs := slices.Clone(x.Cells()), slices.Clone(x.Procs())
		lateCells, lateProcs := x.Cells(), x.Procs()
		spoil(x.Cells(), cell(7, 7))
		spoil(x.Procs(), proc("q", "fail"))
		expectCells(t, x, cells...)
		expectProcs(t, x, procs...)

		first := u.make(t, put(i, i))
		kept := slices.Clone(first)
		second := u.make(t, install(string(rune('h'-i)), "stop "+fmt.Sprint(i)))
		third := u.make(t, del(50))
		fourth := slices.Clone(third)
		spoil(second, api.Act{Kind: 77})
		if !slices.Equal(first, kept) || !slices.Equal(third, fourth) {
			t.Fatalf("P2: %v and %v, want %v and %v", first, third, kept, fourth)
		}
		spoil(first, api.Act{Kind: 77})
		spoil(third, api.Act{Kind: 77})
		if !slices.Equal(lateCells, cells) || !slices.Equal(lateProcs, procs) {
			t.Fatalf("P2: lists that came out were changed: %v, %v", lateCells, lateProcs)
		}
		if textOf(x) != u.now().text() {
			t.Fatalf("P2: the store holds %s, want %s", textOf(x), u.now().text())
		}
	}
	_, acts, _ := cellar.Open("", "")
	kept := slices.Clone(acts)
	_, more, _ := cellar.Open("", "")
	spoil(more, api.Act{Kind: 77})
	_, last, _ := cellar.Open("", "")
	if !slices.Equal(acts, kept) || !slices.Equal(last, kept) {
		t.Errorf("P2: Open's acts are %v and %v, want %v", acts, last, kept)
	}
}

// loan gives a string over bytes that its owner may write into when the call has ended.
func loan(text string) (string, []byte) {
	bytes := append([]byte(text), 0)
	return unsafe.String(&bytes[0], len(text)), bytes
}

func TestP2NothingHandedInIsKept(t *testing.T) {
	u := newUse(t)
	name, nameBytes := loan("abc")
	src, srcBytes := loan("put 1 2 stop 3")
	_, acts, err := u.store.Install(name, src)
	if string(nameBytes) != "abc\x00" || string(srcBytes) != "put 1 2 stop 3\x00" || err != api.OK {
		t.Fatalf("P2: Install wrote into what it was handed: %q, %q, %d", nameBytes, srcBytes, err)
	}
	spoil(nameBytes, 'z')
	spoil(srcBytes, ' ')
	expectProcs(t, u.store, proc("abc", "put 1 2 stop 3"))
	u.disk.play(t, acts)

	for round := 0; round < 2; round++ {
		a, aBytes := loan(u.disk.file[0])
		b, bBytes := loan(u.disk.file[1])
		x, acts, err := cellar.Open(a, b)
		if string(aBytes) != u.disk.file[0]+"\x00" || string(bBytes) != u.disk.file[1]+"\x00" || err != api.OK {
			t.Fatalf("P2: Open wrote into what it was handed: %q, %q, %d", aBytes, bBytes, err)
		}
		spoil(aBytes, 'z')
		spoil(bBytes, 'z')
		expectProcs(t, x, proc("abc", "put 1 2 stop 3"))
		u.disk.play(t, acts)
	}
}

// anyChange: mostly one that can be made, now and then one that cannot.
func anyChange(r *rand.Rand) change {
	names := []string{"a", "b", "ab", "abcdefgh", "ba", "c", "d", "e", "zz", "y"}
	if r.Intn(8) == 0 {
		names = []string{"", "A", "abcdefghi", "a.", "a b"}
	}
	name := names[r.Intn(len(names))]
	switch r.Intn(9) {
	case 0:
		return put(edges[r.Intn(len(edges))], edges[r.Intn(len(edges))])
	case 1:
		return put(r.Intn(100), r.Intn(2000000001)-1000000000)
	case 2:
		return del(r.Intn(103) - 1)
	case 3:
		src := grownStatements(r, 2)
		if r.Intn(8) == 0 {
			src = spoilt(r, src)
		}
		return install(name, src)
	case 4:
		return install(name, pick(r, "", "fail", " stop\n007 ", blanks(400), blanks(401), "put", strings.Repeat("fail ", 80)))
	case 5:
		return install(name, anySource(r))
	case 6, 7:
		return anyCall(r, name)
	}
	return drop(name)
}
