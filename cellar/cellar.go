// Package cellar: a store of numbered cells that outlives crashes, with procedures inside: see DOC.md.
package cellar

import (
	"cellar/api"
	"cellar/contents"
	"cellar/journal"
	"cellar/run"
	"cellar/source"
)

// Store is an open store. One of its files tells what it holds, the other is empty.
type Store struct {
	held *contents.Contents
	file int // the one that tells it
}

// Check tells the first token that cannot stand in a source (P3).
func Check(src string) (int, api.Errno) {
	_, place, err := source.Read(src)
	return place, err
}

// Show writes a source as it is always written (P4).
func Show(src string) (string, api.Errno) {
	tokens, _, err := source.Read(src)
	if err != api.OK {
		return "", err
	}
	return source.Write(tokens), api.OK
}

// Open opens the store that two files hold (P5, P11).
func Open(a string, b string) (*Store, []api.Act, api.Errno) {
	held, file, err := journal.Read(a, b)
	if err != api.OK {
		return nil, nil, err
	}
	x := &Store{held: held, file: file}
	acts := x.move()
	return x, acts, api.OK
}

// Get tells what is in a cell, and whether it is there (P6).
func (x *Store) Get(key int) (int, bool, api.Errno) {
	return x.held.Get(key)
}

// Put puts a value into a cell (P6).
func (x *Store) Put(key int, value int) ([]api.Act, api.Errno) {
	err := x.held.Put(key, value)
	if err != api.OK {
		return nil, err
	}
	return x.tell(journal.Put(key, value)), api.OK
}

// Del empties a cell (P6).
func (x *Store) Del(key int) ([]api.Act, api.Errno) {
	err := x.held.Del(key)
	if err != api.OK {
		return nil, err
	}
	return x.tell(journal.Del(key)), api.OK
}

// Cells lists the cells that are there (P6).
func (x *Store) Cells() []api.Cell {
	return x.held.Cells()
}

// Install keeps a procedure (P7).
func (x *Store) Install(name string, src string) (int, []api.Act, api.Errno) {
	place, err := x.held.Install(name, src)
	if err != api.OK {
		return place, nil, err
	}
	return 0, x.tell(journal.Install(name, src)), api.OK
}

// Drop forgets a procedure (P7).
func (x *Store) Drop(name string) ([]api.Act, api.Errno) {
	err := x.held.Drop(name)
	if err != api.OK {
		return nil, err
	}
	return x.tell(journal.Drop(name)), api.OK
}

// Procs lists the procedures that are kept (P7).
func (x *Store) Procs() []api.Proc {
	return x.held.Procs()
}

// Call runs a procedure (P8, P9).
func (x *Store) Call(name string, args []int, fuel int) (api.Outcome, []api.Act, api.Errno) {
	src, err := x.held.Source(name)
	if err != api.OK {
		return api.Outcome{}, nil, err
	}
	outcome, writes, err := run.Run(x.held, src, args, fuel)
	if err != api.OK {
		return outcome, nil, err
	}
	return outcome, x.write(writes), api.OK
}

// Sync makes lasting what there is (P10).
func (x *Store) Sync() []api.Act {
	return []api.Act{{Kind: api.Sync, File: x.file}}
}

// Compact writes what there is into little room (P12), and makes it lasting (P10).
func (x *Store) Compact() []api.Act {
	return x.move()
}
