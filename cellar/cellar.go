// Package cellar: a store of numbered cells that outlives crashes, with procedures inside: see DOC.md.
package cellar

import (
	"cellar/api"
	"cellar/source"
)

// Store is an open store.
type Store struct{}

// Check tells the first token that cannot stand in a source (P3).
func Check(src string) (int, api.Errno) {
	_, place, err := source.Read(src)
	return place, err
}

// Show writes a source as it is always written (P4).
func Show(src string) (string, api.Errno) {
	tokens, _, err := source.Read(src)
	if err != api.OK {
		return "", err
	}
	return source.Write(tokens), api.OK
}

// Open opens the store that two files hold (P5, P11).
func Open(a string, b string) (*Store, []api.Act, api.Errno) { return nil, nil, api.OK }

// Get tells what is in a cell, and whether it is there (P6).
func (x *Store) Get(key int) (int, bool, api.Errno) { return 0, false, api.OK }

// Put puts a value into a cell (P6).
func (x *Store) Put(key int, value int) ([]api.Act, api.Errno) { return nil, api.OK }

// Del empties a cell (P6).
func (x *Store) Del(key int) ([]api.Act, api.Errno) { return nil, api.OK }

// Cells lists the cells that are there (P6).
func (x *Store) Cells() []api.Cell { return nil }

// Install keeps a procedure (P7).
func (x *Store) Install(name string, src string) (int, []api.Act, api.Errno) { return 0, nil, api.OK }

// Drop forgets a procedure (P7).
func (x *Store) Drop(name string) ([]api.Act, api.Errno) { return nil, api.OK }

// Procs lists the procedures that are kept (P7).
func (x *Store) Procs() []api.Proc { return nil }

// Call runs a procedure (P8, P9).
func (x *Store) Call(name string, args []int, fuel int) (api.Outcome, []api.Act, api.Errno) {
	return api.Outcome{}, nil, api.OK
}

// Sync makes lasting what there is (P10).
func (x *Store) Sync() []api.Act { return nil }

// Compact writes what there is into little room (P12).
func (x *Store) Compact() []api.Act { return nil }
