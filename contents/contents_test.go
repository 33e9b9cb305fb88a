package contents

import (
	"slices"
	"testing"

	"cellar/api"
)

func TestFreshContentsHoldNothing(t *testing.T) {
	c := &Contents{}
	if len(c.Cells()) != 0 || len(c.Procs()) != 0 {
		t.Errorf("%v, %v", c.Cells(), c.Procs())
	}
}

func TestCells(t *testing.T) {
	c := &Contents{}
	for _, x := range []struct {
		key, value int
		want       api.Errno
	}{
		{99, 1, api.OK}, {0, api.MaxValue, api.OK}, {5, -api.MaxValue, api.OK}, {5, 0, api.OK},
		{100, 1, api.ErrKey}, {-1, 1, api.ErrKey}, {-1, api.MaxValue + 1, api.ErrKey},
		{5, api.MaxValue + 1, api.ErrArg}, {5, -api.MaxValue - 1, api.ErrArg},
	} {
		if got := c.Put(x.key, x.value); got != x.want {
			t.Errorf("Put(%d, %d) = %d, want %d", x.key, x.value, got, x.want)
		}
	}
	want := []api.Cell{{Key: 0, Value: api.MaxValue}, {Key: 5}, {Key: 99, Value: 1}}
	if got := c.Cells(); !slices.Equal(got, want) {
		t.Errorf("Cells() = %v, want %v", got, want)
	}
	for _, x := range []struct {
		key  int
		want api.Errno
	}{{0, api.OK}, {0, api.OK}, {98, api.OK}, {100, api.ErrKey}, {-1, api.ErrKey}} {
		if got := c.Del(x.key); got != x.want {
			t.Errorf("Del(%d) = %d, want %d", x.key, got, x.want)
		}
	}
	if value, there, err := c.Get(0); value != 0 || there || err != api.OK {
		t.Errorf("Get(0) = %d, %v, %d: it was deleted", value, there, err)
	}
	if got := c.Cells(); !slices.Equal(got, want[1:]) {
		t.Errorf("Cells() = %v, want %v", got, want[1:])
	}
}

func TestProcs(t *testing.T) {
	c := &Contents{}
	for _, x := range []struct {
		name, src string
		place     int
		err       api.Errno
	}{
		{"b", "fail", 0, api.OK}, {"ab", "", 0, api.OK}, {"a", " ", 0, api.OK}, {"b", "stop 1", 0, api.OK},
		{"B", "put", 0, api.ErrName}, {"", "", 0, api.ErrName}, {"abcdefghi", "", 0, api.ErrName}, {"a", "put 1", 2, api.ErrSource},
	} {
		if place, err := c.Install(x.name, x.src); place != x.place || err != x.err {
			t.Errorf("Install(%q, %q) = %d, %d, want %d, %d", x.name, x.src, place, err, x.place, x.err)
		}
	}
	want := []api.Proc{{Name: "a", Source: " "}, {Name: "ab"}, {Name: "b", Source: "stop 1"}}
	if got := c.Procs(); !slices.Equal(got, want) {
		t.Errorf("Procs() = %q, want %q", got, want)
	}
	if err := c.Drop("c"); err != api.ErrName {
		t.Errorf("Drop(c) = %d", err)
	}
	if err := c.Drop("ab"); err != api.OK {
		t.Errorf("Drop(ab) = %d", err)
	}
	if got := c.Procs(); !slices.Equal(got, []api.Proc{want[0], want[2]}) {
		t.Errorf("Procs() = %q", got)
	}
}

func TestMaxProcs(t *testing.T) {
	c := &Contents{}
	for i := 0; i < api.MaxProcs; i++ {
		c.Install(string(rune('a'+i)), "")
	}
	if place, err := c.Install("z", ""); place != 0 || err != api.ErrFull {
		t.Errorf("one more: %d, %d", place, err)
	}
	if place, err := c.Install("z", "put"); place != 1 || err != api.ErrSource {
		t.Errorf("one more that is no source: %d, %d", place, err)
	}
	if place, err := c.Install("c", "fail"); place != 0 || err != api.OK || len(c.Procs()) != api.MaxProcs {
		t.Errorf("one instead of another: %d, %d, %v", place, err, c.Procs())
	}
}

func TestSource(t *testing.T) {
	c := &Contents{}
	c.Install("a", " stop 1")
	c.Install("ab", "")
	c.Install("b", "fail")
	c.Install("b", "stop 2\n")
	c.Drop("ab")
	for _, x := range []struct {
		name, want string
		err        api.Errno
	}{{"a", " stop 1", api.OK}, {"b", "stop 2\n", api.OK}, {"ab", "", api.ErrName}, {"", "", api.ErrName}, {"A", "", api.ErrName}} {
		if got, err := c.Source(x.name); got != x.want || err != x.err {
			t.Errorf("Source(%q) = %q, %d, want %q, %d", x.name, got, err, x.want, x.err)
		}
	}
}
