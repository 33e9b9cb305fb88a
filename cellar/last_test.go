package cellar_test

import (
	"math/rand"
	"slices"
	"strings"
	"testing"

	"cellar/api"
	"cellar/cellar"
)

// step: one way in which a use of the files goes on without a crash.
type step struct {
	kind   string // change, sync, compact, open
	change change
}

var (
	syncs    = step{kind: "sync"}
	compacts = step{kind: "compact"}
	opens    = step{kind: "open"}
)

func changes(c change) step { return step{"change", c} }

// begin: the acts are still to be played.
func (u *use) begin(t *testing.T, s step) []api.Act {
	t.Helper()
	switch s.kind {
	case "sync":
		return u.sync(t)
	case "compact":
		return u.compact(t)
	case "open":
		return u.open(t, false)
	}
	return u.make(t, s.change)
}

// end: all acts of the step have been played.
func (u *use) end(t *testing.T, s step) {
	t.Helper()
	switch s.kind {
	case "sync":
		u.lasts()
	case "compact", "open":
		u.lasts()
		u.expectRoom(t)
	}
}

func (u *use) steps(t *testing.T, steps ...step) {
	t.Helper()
	for _, s := range steps {
		u.disk.play(t, u.begin(t, s))
		u.end(t, s)
	}
}

// crashInStep: the step, and a crash ahead of, between and behind its acts, with
// all that it may leave, and in the Opens behind it.
func (u *use) crashInStep(t *testing.T, s step, depth int) {
	t.Helper()
	acts := u.begin(t, s)
	for n := 0; n < len(acts); n++ {
		crashed := *u
		crashed.disk.play(t, acts[:n])
		crashEverywhere(t, crashed, depth)
	}
	u.disk.play(t, acts)
	u.end(t, s)
	crashEverywhere(t, *u, depth)
}

// crashed gives the cells of all stores that a crash may leave.
func crashed(t *testing.T, d disk) [][]api.Cell {
	t.Helper()
	var all [][]api.Cell
	for _, left := range d.crashes() {
		x, _, err := cellar.Open(left.file[0], left.file[1])
		if x == nil || err != api.OK {
			t.Fatalf("P5: Open(%q, %q) = %v, %d", left.file[0], left.file[1], x, err)
		}
		all = append(all, x.Cells())
	}
	return all
}

func TestP10P11Example7(t *testing.T) {
	u := newUse(t)
	u.do(t, put(1, 5))
	for _, cells := range crashed(t, u.disk) {
		if len(cells) > 0 && !slices.Equal(cells, []api.Cell{cell(1, 5)}) {
			t.Errorf("P11: behind Put(1, 5) and a crash: %v", cells)
		}
	}
	u.disk.play(t, u.store.Sync())
	for _, cells := range crashed(t, u.disk) {
		if !slices.Equal(cells, []api.Cell{cell(1, 5)}) {
			t.Errorf("P10: behind Put(1, 5), Sync and a crash: %v", cells)
		}
	}
}

// What Sync or Compact has made lasting is only changed by what comes later.
func TestP10LaterChanges(t *testing.T) {
	for _, lasting := range []step{syncs, compacts} {
		u := newUse(t)
		u.do(t, put(1, 5), put(2, 6), put(2, 7))
		u.steps(t, lasting)
		u.do(t, del(1), put(3, 8))
		for _, cells := range crashed(t, u.disk) {
			if !slices.ContainsFunc([][]api.Cell{
				{cell(1, 5), cell(2, 7)}, {cell(2, 7)}, {cell(2, 7), cell(3, 8)},
			}, func(may []api.Cell) bool { return slices.Equal(may, cells) }) {
				t.Errorf("P11: behind a %s, two changes and a crash: %v", lasting.kind, cells)
			}
		}
		u.steps(t, lasting)
		for _, cells := range crashed(t, u.disk) {
			if !slices.Equal(cells, []api.Cell{cell(2, 7), cell(3, 8)}) {
				t.Errorf("P10: behind a second %s and a crash: %v", lasting.kind, cells)
			}
		}
	}
}

// Where there is nothing, or nothing new, both calls may be made all the same.
func TestP10NothingNew(t *testing.T) {
	for _, first := range []step{syncs, compacts, opens} {
		for _, second := range []step{syncs, compacts, opens} {
			u := newUse(t)
			u.crashInStep(t, first, 2)
			u.crashInStep(t, second, 2)
			expectCells(t, u.store)
			u.do(t, put(1, 5))
			u.crashInStep(t, first, 2)
			u.crashInStep(t, second, 2)
			expectCells(t, u.store, cell(1, 5))
		}
	}
}

// A crash at every moment of a long row of steps, and of the Opens behind it.
func TestP10P11EveryCrashOfSyncAndCompact(t *testing.T) {
	u := newUse(t)
	for _, s := range []step{
		changes(put(1, 5)), syncs, changes(put(1, -6)), compacts, changes(install("ab", " stop 1 ")), changes(put(7, 1000000000)), compacts,
		changes(put(7, 8)), syncs, changes(drop("ab")), syncs, syncs, changes(install("p", "put 1 a0 del 7")), compacts, compacts,
		changes(call("p", 9, 3)), changes(del(1)), opens, changes(call("p", 9)), syncs, changes(call("p", 2)), compacts, changes(put(100, 1)), opens,
	} {
		u.crashInStep(t, s, 2)
	}
	expectCells(t, u.store, cell(1, 0))
}

// Every row of up to four steps, with a crash at every moment of the last one.
func TestP10P11P12EveryShortRow(t *testing.T) {
	ways := []step{changes(put(1, 5)), changes(call("p", 9)), changes(install("q", "")), syncs, compacts, opens}
	rows := [][]step{nil}
	for length := 1; length <= 4; length++ {
		var longer [][]step
		for _, row := range rows {
			for _, way := range ways {
				longer = append(longer, append(slices.Clone(row), way))
			}
		}
		rows = longer
		for _, row := range rows {
			u := newUse(t)
			u.do(t, install("p", "put 1 + @ 1 1 put 2 2"))
			u.steps(t, row[:length-1]...)
			u.crashInStep(t, row[length-1], 1)
		}
	}
}

// A full store, with everything as long as it may be.
func TestP10P11P12CompactOfAFullStore(t *testing.T) {
	u := newUse(t)
	for key := 0; key <= 99; key++ {
		u.do(t, put(key, 1), put(key, -1000000000))
	}
	for _, name := range []string{"a", "b", "c", "d", "e", "f", "ghijklmn", "opqrstuv"} {
		u.do(t, install(name, ""), install(name, strings.Repeat("\nfail", 80)))
	}
	u.steps(t, compacts, compacts, syncs)
	r := rand.New(rand.NewSource(8))
	for i := 0; i < 200; i++ {
		u.do(t, put(i%100, i-1000000000), install("a", strings.Repeat("fail ", 80)))
		if i%2 == 0 {
			u.steps(t, syncs)
		}
		acts := u.compact(t)
		played := r.Intn(len(acts) + 1)
		u.disk.play(t, acts[:played])
		if played == len(acts) {
			u.end(t, compacts)
		}
		crash(r, u)
		reopenWithCrashes(t, r, u, true)
	}
	for key := 0; key <= 99; key++ {
		u.do(t, del(key))
	}
	for _, p := range u.store.Procs() {
		u.do(t, drop(p.Name))
	}
	u.steps(t, compacts, opens)
	expectCells(t, u.store)
	expectProcs(t, u.store)
}

// However long a store is used without another Open, the files stay as short as
// what it holds asks for, if it is compacted.
func TestP12CompactKeepsTheFilesShort(t *testing.T) {
	u := newUse(t)
	for i := 0; i < 600; i++ {
		u.do(t, put(i%3, i), install("a", strings.Repeat("fail ", i%80)), del(i%5))
		if i%7 == 0 {
			u.steps(t, compacts)
		}
	}
	u.steps(t, compacts, opens)
}

// Sync is no Compact: many changes may come ahead of it.
func TestP10ManyChanges(t *testing.T) {
	u := newUse(t)
	for i := 0; i < 5000; i++ {
		u.disk.play(t, u.make(t, put(i%100, i)))
		u.may = u.may[len(u.may)-1:]
	}
	u.steps(t, syncs)
	crash(rand.New(rand.NewSource(9)), u)
	u.disk.play(t, u.open(t, true))
	u.opened(t)
	expectGet(t, u.store, 99, 4999, true, api.OK)
}

// Sync and Compact leave all answers as they are.
func TestP2AnswersBehindSyncAndCompact(t *testing.T) {
	r := rand.New(rand.NewSource(10))
	for i := 0; i < 100; i++ {
		plain, other := newUse(t), newUse(t)
		for n := 0; n < 60; n++ {
			c := anyChange(r)
			plain.do(t, c)
			other.do(t, c)
			other.steps(t, []step{syncs, compacts, opens}[r.Intn(3)])
			if textOf(plain.store) != textOf(other.store) {
				t.Fatalf("P2: behind %+v the stores hold %s and %s", c, textOf(plain.store), textOf(other.store))
			}
		}
	}
}

// The same steps on two stores answer the same acts, and leave a third alone.
func TestP2SyncAndCompactOfSeveralStores(t *testing.T) {
	r := rand.New(rand.NewSource(11))
	a, b, third := newUse(t), newUse(t), newUse(t)
	third.do(t, put(1, 2), install("a", "fail"))
	for i := 0; i < 2000; i++ {
		s := anyStep(r)
		first, second := a.begin(t, s), b.begin(t, s)
		if !slices.Equal(first, second) {
			t.Fatalf("P2: %+v answers %v and %v", s, first, second)
		}
		a.disk.play(t, first)
		a.end(t, s)
		b.disk.play(t, second)
		b.end(t, s)
		third.expectHeld(t, "calls on other stores")
	}
	third.steps(t, compacts, opens)
}

func TestP2ActsOfSyncAndCompactAreTheCallers(t *testing.T) {
	for _, s := range []step{syncs, compacts} {
		u := newUse(t)
		u.do(t, put(1, 2), install("a", "fail"))
		first := u.begin(t, s)
		kept := slices.Clone(first)
		u.disk.play(t, first)
		u.end(t, s)
		second := u.begin(t, s)
		u.disk.play(t, second)
		u.end(t, s)
		spoil(second, api.Act{Kind: 77})
		if !slices.Equal(first, kept) {
			t.Fatalf("P2: the acts %v, want %v", first, kept)
		}
		spoil(first, api.Act{Kind: 77})
		u.do(t, put(3, 4))
		u.steps(t, s, opens)
		u.crashInStep(t, s, 1)
	}
}

// anyStep: mostly a change.
func anyStep(r *rand.Rand) step {
	switch r.Intn(12) {
	case 0, 1:
		return syncs
	case 2:
		return compacts
	case 3:
		return opens
	}
	return changes(anyChange(r))
}

// Long uses of every kind, with crashes here and there, in the Opens behind
// them too.
func TestP5P10P11P12AnyUse(t *testing.T) {
	for seed := int64(0); seed < 200; seed++ {
		r := rand.New(rand.NewSource(seed))
		u := newUse(t)
		for i := 0; i < 120; i++ {
			s := anyStep(r)
			acts := u.begin(t, s)
			played := len(acts)
			crashes := r.Intn(8) == 0
			if crashes {
				played = r.Intn(len(acts) + 1)
			}
			u.disk.play(t, acts[:played])
			if played == len(acts) {
				u.end(t, s)
			}
			if crashes {
				crash(r, u)
				reopenWithCrashes(t, r, u, true)
			}
		}
	}
}
