package cellar_test

import (
	"fmt"
	"maps"
	"slices"
	"strings"
	"testing"

	"cellar/api"
	"cellar/cellar"
)

// disk: two files, and how many of their first bytes are lasting.
type disk struct {
	file    [2]string
	lasting [2]int
}

func (d *disk) play(t *testing.T, acts []api.Act) {
	t.Helper()
	for _, act := range acts {
		if act.File < 0 || act.File > 1 || (act.Kind != api.Append && act.Bytes != "") {
			t.Fatalf("P12: the act %+v", act)
		}
		switch act.Kind {
		case api.Append:
			d.file[act.File] += act.Bytes
		case api.Sync:
			d.lasting[act.File] = len(d.file[act.File])
		case api.Erase:
			d.file[act.File], d.lasting[act.File] = "", 0
		default:
			t.Fatalf("P12: the act %+v", act)
		}
	}
}

// crashes gives all that a crash may leave of the files.
func (d disk) crashes() []disk {
	var all []disk
	for a := d.lasting[0]; a <= len(d.file[0]); a++ {
		for b := d.lasting[1]; b <= len(d.file[1]); b++ {
			all = append(all, disk{[2]string{d.file[0][:a], d.file[1][:b]}, [2]int{a, b}})
		}
	}
	return all
}

// model: the contents that a store is to have, kept in another way than the store's.
type model struct {
	cells map[int]int
	procs map[string]string
}

func newModel() model {
	return model{map[int]int{}, map[string]string{}}
}

func (m model) clone() model {
	return model{maps.Clone(m.cells), maps.Clone(m.procs)}
}

func (m model) listCells() []api.Cell {
	var list []api.Cell
	for _, key := range slices.Sorted(maps.Keys(m.cells)) {
		list = append(list, api.Cell{Key: key, Value: m.cells[key]})
	}
	return list
}

func (m model) listProcs() []api.Proc {
	var list []api.Proc
	for _, name := range slices.Sorted(maps.Keys(m.procs)) {
		list = append(list, api.Proc{Name: name, Source: m.procs[name]})
	}
	return list
}

func (m model) text() string {
	return fmt.Sprintf("%v %q", m.listCells(), m.listProcs())
}

func textOf(x *cellar.Store) string {
	return fmt.Sprintf("%v %q", x.Cells(), x.Procs())
}

// room: what both files together may hold behind an Open or a Compact (P12).
func (m model) room() int {
	room := 64 + 32*len(m.cells)
	for _, src := range m.procs {
		room += 64 + 2*len(src)
	}
	return room
}

// change: a call that may change the contents.
type change struct {
	kind       string // put, del, install, drop, call
	key, value int
	name, src  string
	args       []int
	fuel       int
}

// answer: what a change answers but for its acts.
type answer struct {
	place   int
	outcome api.Outcome
	err     api.Errno
}

// make changes the model as the document says.
func (m model) make(c change) answer {
	switch c.kind {
	case "put":
		if c.key < 0 || c.key > 99 {
			return answer{err: api.ErrKey}
		}
		if c.value < -1000000000 || c.value > 1000000000 {
			return answer{err: api.ErrArg}
		}
		m.cells[c.key] = c.value
	case "del":
		if c.key < 0 || c.key > 99 {
			return answer{err: api.ErrKey}
		}
		delete(m.cells, c.key)
	case "install":
		return m.install(c)
	case "drop":
		if _, kept := m.procs[c.name]; !kept {
			return answer{err: api.ErrName}
		}
		delete(m.procs, c.name)
	case "call":
		return m.call(c)
	}
	return answer{}
}

func (m model) install(c change) answer {
	if c.name == "" || len(c.name) > 8 || strings.Trim(c.name, "abcdefghijklmnopqrstuvwxyz") != "" {
		return answer{err: api.ErrName}
	}
	if place, err := referenceCheck(c.src); err != api.OK {
		return answer{place: place, err: err}
	}
	if _, kept := m.procs[c.name]; !kept && len(m.procs) == 8 {
		return answer{err: api.ErrFull}
	}
	m.procs[c.name] = c.src
	return answer{}
}

func (m model) call(c change) answer {
	src, kept := m.procs[c.name]
	if !kept {
		return answer{err: api.ErrName}
	}
	beyond := func(arg int) bool { return arg < -1000000000 || arg > 1000000000 }
	if len(c.args) > 4 || slices.ContainsFunc(c.args, beyond) || c.fuel < 0 || c.fuel > 10000 {
		return answer{err: api.ErrArg}
	}
	cells, outcome, err := referenceCall(src, m.cells, c.args, c.fuel)
	if err == api.OK {
		clear(m.cells)
		maps.Copy(m.cells, cells)
	}
	return answer{outcome: outcome, err: err}
}

// roomOf: how much a change may append (P12) that makes one of these contents
// out of the other one. A cell that is put or deleted, but stays as it was, is
// not counted, so that the bound is kept however the document is read.
func roomOf(c change, from, to model) int {
	room := 64
	for key := 0; key <= 99; key++ {
		old, was := from.cells[key]
		now, is := to.cells[key]
		if old != now || was != is {
			room += 32
		}
	}
	if c.kind == "install" {
		room += 2 * (len(c.name) + len(c.src))
	}
	if old, was := from.procs[c.name]; was && c.kind != "call" {
		room += 2 * (len(c.name) + len(old))
	}
	return room
}

// ask makes the change on a store.
func ask(x *cellar.Store, c change) (answer, []api.Act) {
	var a answer
	var acts []api.Act
	switch c.kind {
	case "put":
		acts, a.err = x.Put(c.key, c.value)
	case "del":
		acts, a.err = x.Del(c.key)
	case "install":
		a.place, acts, a.err = x.Install(c.name, c.src)
	case "drop":
		acts, a.err = x.Drop(c.name)
	case "call":
		a.outcome, acts, a.err = x.Call(c.name, c.args, c.fuel)
	}
	return a, acts
}

// use: a use of the files, and what the store is to hold in it.
type use struct {
	disk  disk
	store *cellar.Store
	// what Open may find: what lasts, and behind it what each later change made
	// of it, the newest last; never without any
	may []model
}

// newUse: a use whose first Open has been played.
func newUse(t *testing.T) *use {
	t.Helper()
	u := &use{may: []model{newModel()}}
	u.disk.play(t, u.open(t, false))
	u.opened(t)
	return u
}

func (u *use) now() model {
	return u.may[len(u.may)-1]
}

// open: the acts are still to be played.
func (u *use) open(t *testing.T, crashed bool) []api.Act {
	t.Helper()
	x, acts, err := cellar.Open(u.disk.file[0], u.disk.file[1])
	if x == nil || err != api.OK {
		t.Fatalf("P5: Open(%q, %q) = %v, %d", u.disk.file[0], u.disk.file[1], x, err)
	}
	if len(acts) > api.MaxActs {
		t.Fatalf("P12: Open(%q, %q) answers %d acts", u.disk.file[0], u.disk.file[1], len(acts))
	}
	found := len(u.may) - 1
	for crashed && found > 0 && u.may[found].text() != textOf(x) {
		found--
	}
	if u.may[found].text() != textOf(x) {
		t.Fatalf("P11: Open(%q, %q) gives %s, but it may be one of %v", u.disk.file[0], u.disk.file[1], textOf(x), u.may)
	}
	u.may = u.may[:found+1]
	u.store = x
	return acts
}

// opened: all acts of the last Open have been played.
func (u *use) opened(t *testing.T) {
	t.Helper()
	u.lasts()
	u.expectRoom(t)
}

// lasts: from now on a crash takes nothing of what the store holds.
func (u *use) lasts() {
	u.may = []model{u.now()}
}

func (u *use) expectRoom(t *testing.T) {
	t.Helper()
	if size := len(u.disk.file[0]) + len(u.disk.file[1]); size > u.now().room() {
		t.Fatalf("P12: the files hold %q and %q: %d bytes, of at most %d", u.disk.file[0], u.disk.file[1], size, u.now().room())
	}
}

// make: the acts are still to be played.
func (u *use) make(t *testing.T, c change) []api.Act {
	t.Helper()
	next := u.now().clone()
	want := next.make(c)
	got, acts := ask(u.store, c)
	if got != want {
		t.Fatalf("P6 to P9: %+v answers %+v, want %+v; the store held %s", c, got, want, u.now().text())
	}
	if textOf(u.store) != next.text() {
		t.Fatalf("P6 to P9: behind %+v the store holds %s, want %s", c, textOf(u.store), next.text())
	}
	if got.err != api.OK && len(acts) > 0 {
		t.Fatalf("P12: %+v answers %d, and the acts %v", c, got.err, acts)
	}
	expectNoErase(t, acts, roomOf(c, u.now(), next))
	if got.err == api.OK {
		u.may = append(slices.Clone(u.may), next)
	}
	return acts
}

// expectNoErase: few acts, which append no more than this.
func expectNoErase(t *testing.T, acts []api.Act, room int) {
	t.Helper()
	size := 0
	for _, act := range acts {
		size += len(act.Bytes)
		if act.Kind == api.Erase {
			t.Fatalf("P12: a change or a Sync erases: %v", acts)
		}
	}
	if len(acts) > api.MaxActs || size > room {
		t.Fatalf("P12: the acts %v append %d bytes, of at most %d", acts, size, room)
	}
}

// do: a change, its acts played.
func (u *use) do(t *testing.T, changes ...change) {
	t.Helper()
	for _, c := range changes {
		u.disk.play(t, u.make(t, c))
	}
}

// sync: Sync; the acts are still to be played.
func (u *use) sync(t *testing.T) []api.Act {
	t.Helper()
	acts := u.store.Sync()
	expectNoErase(t, acts, 64)
	u.expectHeld(t, "Sync")
	return acts
}

// compact: Compact; the acts are still to be played.
func (u *use) compact(t *testing.T) []api.Act {
	t.Helper()
	acts := u.store.Compact()
	if len(acts) > api.MaxActs {
		t.Fatalf("P12: Compact answers %d acts", len(acts))
	}
	u.expectHeld(t, "Compact")
	return acts
}

func (u *use) expectHeld(t *testing.T, behind string) {
	t.Helper()
	if textOf(u.store) != u.now().text() {
		t.Fatalf("P10: behind %s the store holds %s, want %s", behind, textOf(u.store), u.now().text())
	}
}

// doSync: Sync, its acts played.
func (u *use) doSync(t *testing.T) {
	t.Helper()
	u.disk.play(t, u.sync(t))
	u.lasts()
}

// doCompact: Compact, its acts played.
func (u *use) doCompact(t *testing.T) {
	t.Helper()
	u.disk.play(t, u.compact(t))
	u.lasts()
	u.expectRoom(t)
}

// reopen: Open without a crash, its acts played.
func (u *use) reopen(t *testing.T) {
	t.Helper()
	u.disk.play(t, u.open(t, false))
	u.opened(t)
}
