package cellar_test

import (
	"fmt"
	"math"
	"math/rand"
	"slices"
	"strings"
	"testing"

	"cellar/api"
)

func call(name string, fuel int, args ...int) change {
	return change{kind: "call", name: name, args: args, fuel: fuel}
}

// expectCall: what the document asks of a call is said in the test itself, and
// make holds it against the reference too.
func expectCall(t *testing.T, u *use, c change, value, used int, err api.Errno) {
	t.Helper()
	src := u.now().procs[c.name]
	got, acts := ask(u.store, c)
	if got != (answer{outcome: api.Outcome{Value: value, Used: used}, err: err}) || (err != api.OK && len(acts) > 0) {
		t.Errorf("P8, P9: %q of %v with fuel %d: %+v, %v, want %d, %d, %d", src, c.args, c.fuel, got, acts, value, used, err)
	}
	u.disk.play(t, acts)
	next := u.now().clone()
	next.make(c)
	u.may = append(u.may, next)
	if textOf(u.store) != next.text() {
		t.Errorf("P9: behind %q the store holds %s, want %s", src, textOf(u.store), next.text())
	}
}

// expectSource: the same for a source of its own, called in a store that holds these cells.
func expectSource(t *testing.T, src string, args []int, fuel, value, used int, err api.Errno, cells ...api.Cell) *use {
	t.Helper()
	u := newUse(t)
	u.do(t, install("p", src))
	for _, c := range cells {
		u.do(t, put(c.Key, c.Value))
	}
	expectCall(t, u, call("p", fuel, args...), value, used, err)
	return u
}

func TestP8Example4(t *testing.T) {
	u := newUse(t)
	u.do(t, install("add", "put 1 + @ 1 a0 stop @ 1"))
	expectCall(t, u, call("add", 100, 5), 5, 9, api.OK)
	expectCall(t, u, call("add", 100, 6), 11, 9, api.OK)
	expectCall(t, u, call("add", 7, 6), 0, 7, api.ErrFuel)
	expectCells(t, u.store, cell(1, 11))
	expectCall(t, u, call("sub", 1), 0, 0, api.ErrName)
	u.reopen(t)
	expectCells(t, u.store, cell(1, 11))
}

func TestP8Examples5And6(t *testing.T) {
	expectSource(t, "while < v0 3 { set v0 + v0 1 } stop v0", nil, 100, 3, 30, api.OK)
	expectSource(t, "put 1 5 fail", nil, 100, 0, 4, api.ErrFail)
	expectSource(t, "put 200 1", nil, 100, 0, 3, api.ErrKey)
	expectSource(t, "stop * 999999 999999", nil, 100, 0, 4, api.ErrOver)
	expectSource(t, "put 0 1 put 1 1 put 2 1 put 3 1 put 4 1 put 5 1 put 6 1 put 7 1 put 8 1", nil, 100, 0, 27, api.ErrWide)
	expectSource(t, "", nil, 100, 0, 0, api.OK)
	expectSource(t, "", nil, 0, 0, 0, api.OK)
}

func TestP8WhatMayNotBeCalled(t *testing.T) {
	u := newUse(t)
	u.do(t, install("a", "put 1 a3 stop 1"), install("ab", "stop 2"), put(1, 5))
	for _, name := range []string{"", "b", "A", "aa", "abc", "a ", " a", "a\x00", "abcdefghi", strings.Repeat("a", 1000000), "\xff"} {
		// The name comes ahead of the arguments and the fuel.
		for _, fuel := range []int{-1, 0, 10, 10001} {
			expectCall(t, u, call(name, fuel), 0, 0, api.ErrName)
			expectCall(t, u, call(name, fuel, 1, 2, 3, 4, 5), 0, 0, api.ErrName)
			expectCall(t, u, call(name, fuel, math.MinInt), 0, 0, api.ErrName)
		}
	}
	for _, fuel := range []int{math.MinInt, -10000, -1, 10001, 10002, 1 << 32, math.MaxInt} {
		expectCall(t, u, call("a", fuel), 0, 0, api.ErrArg)
		expectCall(t, u, call("a", fuel, 1, 2), 0, 0, api.ErrArg)
	}
	for n := 5; n < 20; n++ {
		expectCall(t, u, call("a", 100, make([]int, n)...), 0, 0, api.ErrArg)
	}
	expectCall(t, u, call("a", 100, make([]int, 1000000)...), 0, 0, api.ErrArg)
	expectCells(t, u.store, cell(1, 5))
}

func TestP8EveryArgument(t *testing.T) {
	for which := 0; which < 4; which++ {
		for _, value := range edges {
			u := newUse(t)
			u.do(t, install("p", "stop a"+fmt.Sprint(which)))
			args := []int{-1, -2, -3, -4}
			args[which] = value
			if value < -1000000000 || value > 1000000000 {
				expectCall(t, u, call("p", 2, args...), 0, 0, api.ErrArg)
				continue
			}
			expectCall(t, u, call("p", 2, args...), value, 2, api.OK)
			expectCall(t, u, call("p", 2, args[:which+1]...), value, 2, api.OK)
			expectCall(t, u, call("p", 2, args[:which]...), 0, 2, api.OK)
			expectCall(t, u, call("p", 2), 0, 2, api.OK)
		}
	}
}

func TestP8Numbers(t *testing.T) {
	for _, x := range []struct {
		text string
		want int
	}{{"0", 0}, {"000000", 0}, {"7", 7}, {"007", 7}, {"000100", 100}, {"999999", 999999}, {"012345", 12345}} {
		expectSource(t, "stop "+x.text, nil, 2, x.want, 2, api.OK)
	}
}

func TestP8Variables(t *testing.T) {
	expectSource(t, "set v0 1 set v1 2 set v2 3 set v3 4 stop + * v0 1000 + * v1 100 + * v2 10 v3", nil, 99, 1234, 8+14, api.OK)
	expectSource(t, "set v1 5 set v1 + v1 v1 stop v1", nil, 99, 10, 8, api.OK)
	for _, v := range []string{"v0", "v1", "v2", "v3"} {
		u := expectSource(t, "set "+v+" + "+v+" a0 stop "+v, []int{5}, 99, 5, 6, api.OK)
		// Each call begins with variables of its own, all 0.
		expectCall(t, u, call("p", 99, 6), 6, 6, api.OK)
		expectCall(t, u, call("p", 99), 0, 6, api.OK)
	}
}

// Each operator at the bounds of what may be computed, and beyond.
func TestP8Operators(t *testing.T) {
	const max = 1000000000
	for _, x := range []struct {
		word          string
		first, second int
		want          int
		err           api.Errno
	}{
		{"+", 2, 3, 5, api.OK}, {"+", max, 0, max, api.OK}, {"+", max, 1, 0, api.ErrOver}, {"+", max, max, 0, api.ErrOver},
		{"+", -max, 0, -max, api.OK}, {"+", -max, -1, 0, api.ErrOver}, {"+", -max, -max, 0, api.ErrOver}, {"+", max, -max, 0, api.OK},
		{"+", max - 1, 1, max, api.OK}, {"+", 1 - max, -1, -max, api.OK},
		{"-", 2, 3, -1, api.OK}, {"-", 3, 2, 1, api.OK}, {"-", 0, max, -max, api.OK}, {"-", -1, max, 0, api.ErrOver}, {"-", -max, max, 0, api.ErrOver},
		{"-", max, -1, 0, api.ErrOver}, {"-", max, -max, 0, api.ErrOver}, {"-", max, 0, max, api.OK}, {"-", -max, -max, 0, api.OK}, {"-", max - 1, -1, max, api.OK},
		{"*", 2, 3, 6, api.OK}, {"*", -2, 3, -6, api.OK}, {"*", -2, -3, 6, api.OK}, {"*", max, 1, max, api.OK}, {"*", max, -1, -max, api.OK}, {"*", max, 2, 0, api.ErrOver},
		{"*", max, max, 0, api.ErrOver}, {"*", max, -max, 0, api.ErrOver}, {"*", -max, -max, 0, api.ErrOver}, {"*", -max, -1, max, api.OK}, {"*", max, 0, 0, api.OK},
		{"*", 40000, 25000, max, api.OK}, {"*", 40000, 25001, 0, api.ErrOver}, {"*", -40000, 25000, -max, api.OK}, {"*", -40000, 25001, 0, api.ErrOver},
		{"*", 31622, 31622, 999950884, api.OK}, {"*", 31623, 31623, 0, api.ErrOver}, {"*", 65536, 65536, 0, api.ErrOver}, {"*", 1 << 29, 1 << 29, 0, api.ErrOver},
		{"<", 2, 3, 1, api.OK}, {"<", 3, 2, 0, api.OK}, {"<", 2, 2, 0, api.OK}, {"<", -max, max, 1, api.OK}, {"<", max, -max, 0, api.OK}, {"<", -1, 0, 1, api.OK}, {"<", 0, -1, 0, api.OK},
		{"=", 2, 3, 0, api.OK}, {"=", 3, 2, 0, api.OK}, {"=", 2, 2, 1, api.OK}, {"=", -max, max, 0, api.OK}, {"=", -max, -max, 1, api.OK}, {"=", 0, 0, 1, api.OK}, {"=", max, max, 1, api.OK},
	} {
		expectSource(t, "stop "+x.word+" a0 a1", []int{x.first, x.second}, 4, x.want, 4, x.err)
	}
}

func TestP8LookingAtCells(t *testing.T) {
	cells := []api.Cell{cell(0, 7), cell(50, 0), cell(99, -1000000000)}
	for _, x := range []struct{ key, value, there int }{{0, 7, 1}, {1, 0, 0}, {50, 0, 1}, {98, 0, 0}, {99, -1000000000, 1}} {
		expectSource(t, "stop @ a0", []int{x.key}, 3, x.value, 3, api.OK, cells...)
		expectSource(t, "stop # a0", []int{x.key}, 3, x.there, 3, api.OK, cells...)
	}
	for _, key := range []int{-1000000000, -100, -99, -1, 100, 101, 199, 1000000000} {
		expectSource(t, "put 1 1 stop @ a0", []int{key}, 9, 0, 6, api.ErrKey, cells...)
		expectSource(t, "put 1 1 stop # a0", []int{key}, 9, 0, 6, api.ErrKey, cells...)
	}
	expectSource(t, "stop @ @ @ 1", nil, 9, 9, 5, api.OK, cell(1, 2), cell(2, 3), cell(3, 9))
	expectSource(t, "stop @ # 5", nil, 9, 4, 4, api.OK, cell(0, 3), cell(1, 4), cell(5, 1))
}

// A call sees what it has changed itself.
func TestP8LookingAtItsOwnChanges(t *testing.T) {
	cells := []api.Cell{cell(7, 5), cell(8, 0)}
	expectSource(t, "put 7 6 stop @ 7", nil, 99, 6, 6, api.OK, cells...)
	expectSource(t, "put 7 0 stop # 7", nil, 99, 1, 6, api.OK, cells...)
	expectSource(t, "put 9 0 stop # 9", nil, 99, 1, 6, api.OK, cells...)
	expectSource(t, "put 9 4 stop @ 9", nil, 99, 4, 6, api.OK, cells...)
	expectSource(t, "del 7 stop # 7", nil, 99, 0, 5, api.OK, cells...)
	expectSource(t, "del 7 stop @ 7", nil, 99, 0, 5, api.OK, cells...)
	expectSource(t, "del 9 stop # 9", nil, 99, 0, 5, api.OK, cells...)
	expectSource(t, "put 7 6 del 7 stop + # 7 @ 7", nil, 99, 0, 3+2+6, api.OK, cells...)
	expectSource(t, "del 7 put 7 6 stop + # 7 @ 7", nil, 99, 7, 3+2+6, api.OK, cells...)
	expectSource(t, "put 1 1 put 2 2 put 1 3 stop + * 10 @ 1 @ 2", nil, 99, 32, 9+8, api.OK)
	expectSource(t, "put 7 + @ 7 @ 7 put 7 + @ 7 @ 7 stop @ 7", nil, 99, 20, 7+7+3, api.OK, cells...)
}

func TestP9CellsBehindACall(t *testing.T) {
	u := expectSource(t, "put 3 30 del 5 put 99 a0 put 0 - 0 1 del 6 put 7 1 del 7 del 8 put 8 2", []int{1000000000}, 99, 0, 3+2+3+5+2+3+2+2+3, api.OK,
		cell(3, 1), cell(4, 4), cell(5, 5), cell(7, 7), cell(8, 8))
	want := []api.Cell{cell(0, -1), cell(3, 30), cell(4, 4), cell(8, 2), cell(99, 1000000000)}
	expectCells(t, u.store, want...)
	u.reopen(t)
	expectCells(t, u.store, want...)
}

// Where several things are wrong, the one that comes first in the work is told.
func TestP8WhichErrorComesFirst(t *testing.T) {
	max := []int{1000000000}
	expectSource(t, "put @ 100 + a0 a0", max, 99, 0, 3, api.ErrKey)
	expectSource(t, "put 200 + a0 a0", max, 99, 0, 5, api.ErrOver)
	expectSource(t, "put 200 @ 200", max, 99, 0, 4, api.ErrKey)
	expectSource(t, "put 200 1", max, 2, 0, 2, api.ErrFuel)
	expectSource(t, "put 200 1", max, 3, 0, 3, api.ErrKey)
	expectSource(t, "del 200", max, 1, 0, 1, api.ErrFuel)
	expectSource(t, "del 200", max, 2, 0, 2, api.ErrKey)
	expectSource(t, "del - 0 1", max, 9, 0, 4, api.ErrKey)
	expectSource(t, "put - 0 1 1", max, 9, 0, 5, api.ErrKey)
	expectSource(t, "stop + @ 100 * a0 a0", max, 99, 0, 4, api.ErrKey)
	expectSource(t, "stop + * a0 a0 @ 100", max, 99, 0, 5, api.ErrOver)
	expectSource(t, "stop < * a0 a0 0", max, 99, 0, 5, api.ErrOver)
	expectSource(t, "stop # * a0 a0", max, 99, 0, 5, api.ErrOver)
	expectSource(t, "fail", nil, 0, 0, 0, api.ErrFuel)
	expectSource(t, "fail", nil, 1, 0, 1, api.ErrFail)
	expectSource(t, "fail stop @ 100", nil, 9, 0, 1, api.ErrFail)
	expectSource(t, "stop @ 100 fail", nil, 9, 0, 3, api.ErrKey)
	expectSource(t, "stop 5 fail", nil, 9, 5, 2, api.OK)
	expectSource(t, "stop 5 put 100 1", nil, 9, 5, 2, api.OK)
	expectSource(t, "set v0 + a0 1", max, 9, 0, 4, api.ErrOver)
	expectSource(t, "if @ 100 { stop 1 } { stop 2 }", nil, 9, 0, 3, api.ErrKey)
	expectSource(t, "while # 100 { }", nil, 9, 0, 3, api.ErrKey)
}

func TestP8MaxWrites(t *testing.T) {
	eight := "put 10 1 put 11 1 put 12 1 put 13 1 del 14 del 15 del 16 put 17 1 " // 5 puts, 3 dels: 21 units
	expectSource(t, eight+"stop 1", nil, 99, 1, 23, api.OK)
	for key := 10; key <= 17; key++ {
		expectSource(t, eight+"put a0 5 del a0 stop 1", []int{key}, 99, 1, 21+5+2, api.OK)
		expectSource(t, eight+"del a0 put a0 5 stop @ a0", []int{key}, 99, 5, 21+5+3, api.OK)
	}
	for _, key := range []int{0, 9, 18, 99} {
		expectSource(t, eight+"put a0 5 stop 1", []int{key}, 99, 0, 24, api.ErrWide)
		expectSource(t, eight+"del a0 stop 1", []int{key}, 99, 0, 23, api.ErrWide)
		// What is there does not matter, nor does what is only looked at.
		expectSource(t, eight+"put a0 5 stop 1", []int{key}, 99, 0, 24, api.ErrWide, cell(key, 5))
		expectSource(t, eight+"del a0 stop 1", []int{key}, 99, 0, 23, api.ErrWide, cell(key, 5))
		expectSource(t, eight+"stop + @ a0 # a0", []int{key}, 99, 6, 21+6, api.OK, cell(key, 5))
	}
	for _, key := range []int{-1, 100} {
		expectSource(t, eight+"put a0 5 stop 1", []int{key}, 99, 0, 24, api.ErrKey)
		expectSource(t, eight+"del a0 stop 1", []int{key}, 99, 0, 23, api.ErrKey)
	}
	expectSource(t, eight+"put 9 5", nil, 23, 0, 23, api.ErrFuel)
	expectSource(t, "while < v0 9 { del v0 set v0 + v0 1 }", nil, 999, 0, 8*10+4+2, api.ErrWide)
	expectSource(t, "while < v0 8 { put v0 v0 set v0 + v0 1 } put 3 9", nil, 999, 0, 8*11+4+3, api.OK)
	expectSource(t, "while < v0 100 { put 5 v0 set v0 + v0 1 } stop @ 5", nil, 9999, 99, 100*11+4+3, api.OK)
}

// What a call writes does not count in the next one.
func TestP8MaxWritesIsOfOneCall(t *testing.T) {
	u := newUse(t)
	u.do(t, install("p", "set v1 a0 while < v0 8 { put v1 a1 set v1 + v1 1 set v0 + v0 1 }"))
	var want []api.Cell
	for key := 0; key < 96; key++ {
		if key%8 == 0 {
			expectCall(t, u, call("p", 999, key, key+1), 0, 2+8*(4+3+4+4)+4, api.OK)
		}
		want = append(want, cell(key, key/8*8+1))
	}
	expectCells(t, u.store, want...)
	u.reopen(t)
	expectCells(t, u.store, want...)
}

func TestP8If(t *testing.T) {
	for _, x := range []struct{ arg, want int }{{0, 2}, {1, 1}, {-1, 1}, {1000000000, 1}, {-1000000000, 1}} {
		expectSource(t, "if a0 { set v0 1 } { set v0 2 } stop v0", []int{x.arg}, 99, x.want, 6, api.OK)
		expectSource(t, "if a0 { stop 1 } { stop 2 } fail", []int{x.arg}, 99, x.want, 4, api.OK)
	}
	expectSource(t, "if 1 { } { fail }", nil, 99, 0, 2, api.OK)
	expectSource(t, "if 0 { fail } { }", nil, 99, 0, 2, api.OK)
	expectSource(t, "if 0 { fail } { } stop 4", nil, 99, 4, 4, api.OK)
	expectSource(t, "if 1 { fail } { }", nil, 99, 0, 3, api.ErrFail)
	expectSource(t, "if 0 { } { fail }", nil, 99, 0, 3, api.ErrFail)
	expectSource(t, "if 0 { if 1 { fail } { fail } while 1 { } } { if a0 { stop 3 } { fail } } fail", []int{-2}, 99, 3, 6, api.OK)
	expectSource(t, "if 1 { if 0 { fail } { set v0 5 } set v1 6 } { if 1 { fail } { fail } fail } stop + v0 v1", nil, 99, 11, 2+2+2+2+4, api.OK)
	expectSource(t, "if 1 { stop 1 } { } stop 2", nil, 99, 1, 4, api.OK)
	expectSource(t, "if 0 { } { stop 1 } stop 2", nil, 99, 1, 4, api.OK)
}

func TestP8While(t *testing.T) {
	expectSource(t, "while 0 { fail }", nil, 99, 0, 2, api.OK)
	expectSource(t, "while 0 { fail } stop 3", nil, 99, 3, 4, api.OK)
	expectSource(t, "while 0 { if 1 { fail } { while 1 { } } fail } stop 3", nil, 99, 3, 4, api.OK)
	expectSource(t, "while 1 { stop 6 } fail", nil, 99, 6, 4, api.OK)
	expectSource(t, "while - 0 1 { stop 6 } fail", nil, 99, 6, 6, api.OK)
	expectSource(t, "while 1 { fail }", nil, 99, 0, 3, api.ErrFail)
	expectSource(t, "set v0 3 while v0 { set v0 - v0 1 }", nil, 99, 0, 2+3*6+2, api.OK)
	expectSource(t, "while < v0 3 { set v1 0 while < v1 4 { set v1 + v1 1 set v2 + v2 1 } set v0 + v0 1 } stop v2", nil, 999, 12, 3*(4+2+4*12+4+4)+4+2, api.OK)
	expectSource(t, "while 1 { while 1 { stop 9 } fail } fail", nil, 99, 9, 6, api.OK)
	expectSource(t, "while 1 { if = v0 5 { stop v0 } { } set v0 + v0 1 }", nil, 99, 5, 5*(2+4+4)+2+4+2, api.OK)
	expectSource(t, "while 1 { if 1 { while = v0 0 { set v0 1 } } { } if v0 { stop 8 } { } }", nil, 99, 8, 2+2+4+2+4+2+2, api.OK)
}

func TestP8EndlessWork(t *testing.T) {
	for _, fuel := range []int{0, 1, 2, 3, 9999, 10000} {
		expectSource(t, "while 1 { }", nil, fuel, 0, fuel, api.ErrFuel)
		expectSource(t, "put 1 1 while 1 { put 1 + @ 1 1 }", nil, fuel, 0, fuel, api.ErrFuel)
		expectSource(t, "while 1 { while 1 { while 1 { } } }", nil, fuel, 0, fuel, api.ErrFuel)
	}
	expectSource(t, "while < v0 1249 { set v0 + v0 1 } set v0 0 stop v0", nil, 10000, 0, 1249*8+4+4, api.OK)
	expectSource(t, "while < v0 1249 { set v0 + v0 1 } set v0 0 stop v0 fail", nil, 9999, 0, 9999, api.ErrFuel)
}

// With just enough fuel the work ends as with much, with less it ends where the fuel does.
func TestP8EveryFuel(t *testing.T) {
	for _, src := range []string{
		"", "fail", "stop 5", "put 1 + @ 1 a0 stop @ 1", "while < v0 3 { set v0 + v0 1 } stop v0", "put 1 5 fail", "put 200 1", "stop * 999999 999999",
		"if a0 { put 1 2 del # 3 } { fail } stop - @ 1 < 2 3", "while < v0 9 { put v0 v0 set v0 + v0 1 }", "if 0 { } { while 0 { } del 7 stop = v0 v1 }",
	} {
		_, full, err := referenceCall(src, map[int]int{}, []int{5}, 10000)
		for fuel := 0; fuel <= full.Used+2; fuel++ {
			if fuel < full.Used {
				expectSource(t, src, []int{5}, fuel, 0, fuel, api.ErrFuel)
			} else {
				expectSource(t, src, []int{5}, fuel, full.Value, full.Used, err)
			}
		}
	}
}

// With an error nothing is changed, whatever was put and deleted ahead of it.
func TestP9NothingIsChangedWithAnError(t *testing.T) {
	cells := []api.Cell{cell(1, 1), cell(2, 2), cell(3, 3)}
	for _, x := range []struct {
		end  string
		used int
		err  api.Errno
	}{
		{"fail", 9, api.ErrFail}, {"put 100 1", 11, api.ErrKey}, {"del 100", 10, api.ErrKey}, {"stop @ 100", 11, api.ErrKey}, {"set v0 # 100", 11, api.ErrKey},
		{"stop * 999999 999999", 12, api.ErrOver}, {"while 1 { put 2 1 }", 200, api.ErrFuel},
		{"while 1 { del v0 set v0 + v0 1 }", 8 + 8*8 + 2 + 2, api.ErrWide},
	} {
		u := expectSource(t, "put 1 7 del 2 put 4 4 "+x.end, nil, 200, 0, x.used, x.err, cells...)
		expectCells(t, u.store, cells...)
		u.reopen(t)
		expectCells(t, u.store, cells...)
		u.do(t, install("p", "stop + @ 1 + @ 2 # 4"))
		expectCall(t, u, call("p", 99), 3, 9, api.OK)
	}
}

// The source that is worked out is the one that is kept now.
func TestP8WhichSourceIsCalled(t *testing.T) {
	u := newUse(t)
	expectCall(t, u, call("a", 9), 0, 0, api.ErrName)
	u.do(t, install("a", "stop 1"), install("ab", "stop 2"), install("b", "stop 3"))
	for i := 0; i < 2; i++ {
		expectCall(t, u, call("a", 9), 1, 2, api.OK)
		expectCall(t, u, call("ab", 9), 2, 2, api.OK)
		expectCall(t, u, call("b", 9), 3, 2, api.OK)
		u.reopen(t)
	}
	u.do(t, install("ab", "stop 4"), install("ab", "stop"))
	expectCall(t, u, call("ab", 9), 4, 2, api.OK)
	u.do(t, drop("a"))
	expectCall(t, u, call("a", 9), 0, 0, api.ErrName)
	expectCall(t, u, call("ab", 9), 4, 2, api.OK)
	u.reopen(t)
	expectCall(t, u, call("a", 9), 0, 0, api.ErrName)
	u.do(t, install("a", "\n stop  005\n"))
	expectCall(t, u, call("a", 9), 5, 2, api.OK)
}

// Sources that are as long and as deep as they may be.
func TestP1P8DeepSources(t *testing.T) {
	for _, src := range []string{
		"stop " + strings.Repeat("@ ", 197) + "1", "stop " + strings.Repeat("# ", 197) + "1",
		"stop " + strings.Repeat("+ 1 ", 98) + "1", "stop " + strings.Repeat("+ ", 98) + strings.Repeat("1 ", 98) + "1",
		"stop " + strings.Repeat("* a0 ", 78) + "2",
		strings.Repeat("if 1 { ", 36) + strings.Repeat("} { } ", 24), strings.Repeat("if 1 { ", 30) + "stop 7 " + strings.Repeat("} { } ", 30),
		strings.Repeat("if 0 { } { ", 30) + "stop 7 " + strings.Repeat("} ", 30), strings.Repeat("if 0 { } { ", 30) + strings.Repeat("} ", 30),
		strings.Repeat("while 1 { ", 32) + strings.Repeat("} ", 32), strings.Repeat("while 1 { ", 32) + "fail" + strings.Repeat(" }", 32),
		strings.Repeat("while = v0 0 { ", 22) + "set v0 1 " + strings.Repeat("} ", 22) + "stop v0", strings.Repeat("fail ", 80), blanks(400),
		strings.Repeat("set v0 1 ", 44), strings.Repeat("put 1 2\n", 50), strings.Repeat("del 9 ", 66), strings.Repeat("stop 1 ", 57),
	} {
		for _, fuel := range []int{0, 1, 50, 100, 10000} {
			u := newUse(t)
			u.make(t, install("p", src))
			u.make(t, call("p", fuel, 1, 2, 3, 4))
			u.make(t, call("p", fuel, -1))
		}
	}
}

func TestP2ArgumentsStayTheCallers(t *testing.T) {
	u := newUse(t)
	u.do(t, install("p", "set v0 a0 set v1 a1 put 1 v0 put 2 a3 set v0 9 stop + a0 a1"), install("q", "stop + a0 + a1 + a2 a3"))
	args := []int{5, 6, 7, 8, 9, 10}
	for n := 0; n <= 4; n++ {
		u.do(t, call("p", 99, args[:n]...), call("q", 99, args[:n]...), call("p", 3, args[:n]...), call("x", 3, args[:n]...), call("p", -1, args[:n]...))
		if !slices.Equal(args, []int{5, 6, 7, 8, 9, 10}) {
			t.Fatalf("P2: the arguments were written into: %v", args)
		}
	}
	// What is written into the list afterwards is seen by no later call.
	spoil(args, 77)
	expectCall(t, u, call("q", 99), 0, 8, api.OK)
	expectCells(t, u.store, cell(1, 5), cell(2, 8))
	u.reopen(t)
	expectCells(t, u.store, cell(1, 5), cell(2, 8))
}

func TestP2ActsOfACallAreTheCallers(t *testing.T) {
	u := newUse(t)
	u.do(t, install("p", "put 1 a0 put 2 a0"))
	name, nameBytes := loan("p")
	first := u.make(t, call(name, 99, 5))
	if string(nameBytes) != "p\x00" {
		t.Fatalf("P2: Call wrote into the name: %q", nameBytes)
	}
	spoil(nameBytes, 'z')
	kept := slices.Clone(first)
	second := u.make(t, call("p", 99, 6))
	u.disk.play(t, first)
	u.disk.play(t, second)
	spoil(second, api.Act{Kind: 77})
	if !slices.Equal(first, kept) {
		t.Fatalf("P2: the acts %v, want %v", first, kept)
	}
	spoil(first, api.Act{Kind: 77})
	u.do(t, call("p", 99, 7))
	u.reopen(t)
	expectCells(t, u.store, cell(1, 7), cell(2, 7))
}

// The most and the least that calls append: roomOf counts what they change.
func TestP12CallsAppendLittle(t *testing.T) {
	u := newUse(t)
	u.do(t, install("fill", "set v0 a0 while < v0 + a0 8 { put v0 a1 set v0 + v0 1 }"), install("drain", "while < v0 8 { del + a0 v0 set v0 + v0 1 }"))
	u.do(t, install("both", "while < v0 8 { put + a0 v0 1 del + a0 v0 set v0 + v0 1 }"), install("look", "stop @ 1"))
	for _, base := range []int{0, 5, 92} {
		u.do(t, call("drain", 999, base), call("both", 999, base), call("fill", 999, base, -1000000000), call("fill", 999, base, -1000000000))
		u.do(t, call("look", 9), call("both", 999, base), call("fill", 999, base, 1), call("drain", 999, base), call("drain", 999, base))
		u.reopen(t)
	}
}

// A crash at every moment behind a call: all of its cells are changed, or none.
func TestP9P11EveryCrashOfACall(t *testing.T) {
	u := newUse(t)
	u.do(t, put(1, 10), put(2, 20), install("move", "put 1 - @ 1 a0 put 2 + @ 2 a0 if < @ 1 0 { fail } { } if = @ 1 0 { del 1 } { }"))
	u.reopen(t)
	for _, c := range []change{call("move", 99, 3), call("move", 99, 8), call("move", 99), put(3, 3), call("move", 99, 7)} {
		acts := u.make(t, c)
		for n := 0; n <= len(acts); n++ {
			crashed := *u
			crashed.disk.play(t, acts[:n])
			crashEverywhere(t, crashed, 2)
		}
		u.disk.play(t, acts)
		openAndCrash(t, *u, false, 2)
	}
}

// Sources of every kind, held against the reference, in a store that they change.
func TestP8P9AnySource(t *testing.T) {
	r := rand.New(rand.NewSource(7))
	seen := map[api.Errno]int{}
	for i := 0; i < 3000; i++ {
		u := newUse(t)
		u.do(t, put(1, 3), put(5, -2), put(98, 0), install("p", anySource(r)), install("q", anySource(r)))
		for n := 0; n < 6; n++ {
			c := anyCall(r, pick(r, "p", "q"))
			before := u.now().clone()
			u.do(t, c)
			seen[before.make(c).err]++
		}
		u.reopen(t)
	}
	for _, err := range []api.Errno{api.OK, api.ErrKey, api.ErrArg, api.ErrOver, api.ErrWide, api.ErrFail, api.ErrFuel} {
		if seen[err] < 100 {
			t.Errorf("only %d calls ended with %d", seen[err], err)
		}
	}
}

// anySource: a right source of which most can be worked out for a while.
func anySource(r *rand.Rand) string {
	src := ""
	for ok := api.ErrLong; ok != api.OK; _, ok = referenceCheck(src) {
		src = workableStatements(r, 3)
		if r.Intn(10) == 0 {
			src = grownStatements(r, 3)
		}
	}
	return src
}

func anyCall(r *rand.Rand, name string) change {
	fuel := []int{0, 1, 5, 20, 100, 10000, 10000, 10000, 10000}[r.Intn(9)]
	args := make([]int, r.Intn(5))
	for i := range args {
		args[i] = []int{0, 1, 2, 5, -1, 99, 100, 31623, 1000000000, -1000000000}[r.Intn(10)]
	}
	if r.Intn(40) == 0 {
		args = append(args, edges[r.Intn(len(edges))])
	}
	if r.Intn(40) == 0 {
		fuel = edges[r.Intn(len(edges))]
	}
	return call(name, fuel, args...)
}

func workableStatements(r *rand.Rand, depth int) string {
	src := ""
	for n := 1 + r.Intn(3); n > 0; n-- {
		src += workableStatement(r, depth)
	}
	return src
}

func workableStatement(r *rand.Rand, depth int) string {
	kind := r.Intn(14)
	if depth == 0 {
		kind = r.Intn(10)
	}
	switch {
	case kind < 3:
		return "set v" + pick(r, "0", "1", "2", "3") + " " + workableExpression(r, 2)
	case kind < 7:
		return "put " + workableKey(r) + workableExpression(r, 2)
	case kind < 9:
		return "del " + workableKey(r)
	case kind == 9:
		return pick(r, "fail ", "stop "+workableExpression(r, 2), "stop v0 ")
	case kind < 12:
		return "if " + workableExpression(r, 2) + "{ " + workableStatements(r, depth-1) + "} { " + pick(r, "", workableStatements(r, depth-1)) + "} "
	}
	count := "v" + pick(r, "0", "1", "2", "3") + " "
	body := pick(r, "", "put "+count+"v1 ", "del "+count) + workableStatements(r, depth-1)
	return "while < " + count + pick(r, "2 ", "5 ", "9 ", "12 ") + "{ " + body + "set " + count + "+ " + count + "1 } "
}

func workableKey(r *rand.Rand) string {
	return pick(r, "0 ", "1 ", "2 ", "5 ", "98 ", "99 ", "100 ", "a0 ", "v0 ", "v1 ", "v2 ", "+ v0 50 ", "+ v1 v2 ", "# v0 ", "@ 1 ", "* v0 3 ")
}

func workableExpression(r *rand.Rand, depth int) string {
	kind := r.Intn(8)
	if depth == 0 {
		kind = r.Intn(4)
	}
	switch kind {
	case 0:
		return pick(r, "0 ", "1 ", "2 ", "3 ", "10 ", "99 ", "031623 ", "* 031623 031622 ", "999999 ")
	case 1:
		return pick(r, "a0 ", "a1 ", "a2 ", "a3 ", "+ a0 a1 ", "- a1 a0 ", "* a0 a1 ")
	case 2, 3:
		return pick(r, "v0 ", "v1 ", "v2 ", "v3 ")
	case 4, 5:
		return pick(r, "@ ", "# ") + workableKey(r)
	}
	return pick(r, "+ ", "- ", "* ", "< ", "= ") + workableExpression(r, depth-1) + workableExpression(r, depth-1)
}
