// Package contents keeps what a store holds: its cells and its procedures.
package contents

import (
	"cellar/api"
	"cellar/source"
)

// Contents at first hold nothing.
type Contents struct {
	cells [api.MaxKey + 1]cell
	procs []api.Proc // the names rising
}

// cell: the value of one that is not there is 0.
type cell struct {
	there bool
	value int
}

// Get tells what is in a cell, and whether it is there.
func (c *Contents) Get(key int) (int, bool, api.Errno) {
	if !isKey(key) {
		return 0, false, api.ErrKey
	}
	return c.cells[key].value, c.cells[key].there, api.OK
}

// Put puts a value into a cell.
func (c *Contents) Put(key int, value int) api.Errno {
	if !isKey(key) {
		return api.ErrKey
	}
	if value < -api.MaxValue || value > api.MaxValue {
		return api.ErrArg
	}
	c.cells[key] = cell{there: true, value: value}
	return api.OK
}

// Del empties a cell.
func (c *Contents) Del(key int) api.Errno {
	if !isKey(key) {
		return api.ErrKey
	}
	c.cells[key] = cell{}
	return api.OK
}

// Cells lists the cells that are there, their keys rising.
func (c *Contents) Cells() []api.Cell {
	var list []api.Cell
	for key := 0; key < len(c.cells); key++ {
		if c.cells[key].there {
			list = append(list, api.Cell{Key: key, Value: c.cells[key].value})
		}
	}
	return list
}

// Install keeps a source under a name. It tells the place of a source's fault.
func (c *Contents) Install(name string, src string) (int, api.Errno) {
	if !isName(name) {
		return 0, api.ErrName
	}
	_, place, err := source.Read(src)
	if err != api.OK {
		return place, err
	}
	others := c.others(name)
	if len(others) >= api.MaxProcs {
		return 0, api.ErrFull
	}
	c.procs = inserted(others, api.Proc{Name: copied(name), Source: copied(src)})
	return 0, api.OK
}

// Drop forgets the procedure of a name.
func (c *Contents) Drop(name string) api.Errno {
	others := c.others(name)
	if len(others) == len(c.procs) {
		return api.ErrName
	}
	c.procs = others
	return api.OK
}

// Source gives what is kept under a name.
func (c *Contents) Source(name string) (string, api.Errno) {
	for i := 0; i < len(c.procs); i++ {
		if c.procs[i].Name == name {
			return c.procs[i].Source, api.OK
		}
	}
	return "", api.ErrName
}

// Procs lists the procedures, their names rising.
func (c *Contents) Procs() []api.Proc {
	var list []api.Proc
	for i := 0; i < len(c.procs); i++ {
		list = append(list, c.procs[i])
	}
	return list
}

// others lists the procedures that have other names than this one.
func (c *Contents) others(name string) []api.Proc {
	var list []api.Proc
	for i := 0; i < len(c.procs); i++ {
		if c.procs[i].Name != name {
			list = append(list, c.procs[i])
		}
	}
	return list
}

// inserted lists procedures, their names rising, and one more in its place.
func inserted(procs []api.Proc, proc api.Proc) []api.Proc {
	var list []api.Proc
	i := 0
	for i < len(procs) && procs[i].Name < proc.Name {
		list = append(list, procs[i])
		i++
	}
	list = append(list, proc)
	for i < len(procs) {
		list = append(list, procs[i])
		i++
	}
	return list
}

// copied: a name or source may be cut from a whole file, and would keep the
// file's bytes for as long as it is kept itself.
func copied(text string) string {
	return string([]byte(text))
}

func isKey(key int) bool {
	return key >= 0 && key <= api.MaxKey
}

func isName(name string) bool {
	if len(name) == 0 || len(name) > api.MaxName {
		return false
	}
	for i := 0; i < len(name); i++ {
		if name[i] < 'a' || name[i] > 'z' {
			return false
		}
	}
	return true
}
