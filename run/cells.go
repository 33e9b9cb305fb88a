package run

import (
	"cellar/api"
	"cellar/contents"
)

// Write is what is left in a cell that was put or deleted. The value of one
// that is not there is 0.
type Write struct {
	Key   int
	There bool
	Value int
}

// cells are those of a store as the work sees them. What it has written is
// kept apart, so that nothing is changed if it ends with an error.
type cells struct {
	held   *contents.Contents
	writes []Write // each of another cell
}

func (c *cells) get(key int) (int, bool, api.Errno) {
	i := c.find(key)
	if i < len(c.writes) {
		return c.writes[i].Value, c.writes[i].There, api.OK
	}
	return c.held.Get(key)
}

func (c *cells) write(write Write) api.Errno {
	_, _, err := c.held.Get(write.Key)
	if err != api.OK {
		return err
	}
	i := c.find(write.Key)
	if i < len(c.writes) {
		c.writes[i] = write
		return api.OK
	}
	if i >= api.MaxWrites {
		return api.ErrWide
	}
	c.writes = append(c.writes, write)
	return api.OK
}

// find gives the place of the write of a cell, or how many writes there are.
func (c *cells) find(key int) int {
	i := 0
	for i < len(c.writes) && c.writes[i].Key != key {
		i++
	}
	return i
}
