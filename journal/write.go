// Package journal writes what a store holds, and each change of it, as text,
// and reads it back.
//
// A file is a row of records: the first one tells all that the store held when
// the file was begun, each further one a change. A record is a row of entries
// and a mark behind them, laid behind the file at once: a crash leaves all of
// it, or a piece without the mark, which tells nothing.
package journal

import (
	"strconv"

	"cellar/api"
	"cellar/contents"
)

// An entry begins with its kind.
const (
	putKind     = "p"
	delKind     = "d"
	installKind = "i"
	dropKind    = "r"
)

// The marks part the text without a length told ahead: none of them stands in
// a number or in a name, and of a source's bytes only keyEnd is one, where it
// is not looked for.
const (
	keyEnd    = '='
	nameEnd   = ':'
	entryEnd  = ';'
	recordEnd = '.'
)

// Put writes the entry of a value that is put into a cell.
func Put(key int, value int) string {
	return putKind + strconv.Itoa(key) + string(keyEnd) + strconv.Itoa(value) + string(entryEnd)
}

// Del writes the entry of a cell that is emptied.
func Del(key int) string {
	return delKind + strconv.Itoa(key) + string(entryEnd)
}

// Install writes the entry of a procedure that is kept. Its source must be one:
// other texts may hold the marks.
func Install(name string, src string) string {
	return installKind + name + string(nameEnd) + src + string(entryEnd)
}

// Drop writes the entry of a procedure that is kept no more.
func Drop(name string) string {
	return dropKind + name + string(entryEnd)
}

// Record writes the record of a row of entries.
func Record(entries string) string {
	return entries + string(recordEnd)
}

// All writes the record of all that a store holds.
func All(held *contents.Contents) string {
	cells := cellEntries(held.Cells())
	procs := procEntries(held.Procs())
	return Record(cells + procs)
}

func cellEntries(cells []api.Cell) string {
	text := ""
	for i := 0; i < len(cells); i++ {
		text += Put(cells[i].Key, cells[i].Value)
	}
	return text
}

func procEntries(procs []api.Proc) string {
	text := ""
	for i := 0; i < len(procs); i++ {
		text += Install(procs[i].Name, procs[i].Source)
	}
	return text
}
