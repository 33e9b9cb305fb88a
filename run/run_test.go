package run

import (
	"slices"
	"testing"

	"cellar/api"
	"cellar/contents"
)

// store: contents with the cells 1 and 2.
func store() *contents.Contents {
	held := &contents.Contents{}
	held.Put(1, 10)
	held.Put(2, 20)
	return held
}

func TestRun(t *testing.T) {
	for _, x := range []struct {
		src    string
		args   []int
		fuel   int
		want   api.Outcome
		writes []Write
		err    api.Errno
	}{
		{"", nil, 0, api.Outcome{}, nil, api.OK},
		{"stop + @ 1 a1", []int{3, 4}, 9, api.Outcome{Value: 14, Used: 5}, nil, api.OK},
		{"put 5 6 put 1 7 del 2 put 5 0", nil, 11, api.Outcome{Used: 11}, []Write{{5, true, 0}, {1, true, 7}, {2, false, 0}}, api.OK},
		{"put 1 10 del 9 put 3 3 del 3", nil, 99, api.Outcome{Used: 10}, []Write{{1, true, 10}, {9, false, 0}, {3, false, 0}}, api.OK},
		{"put 5 6 fail", nil, 99, api.Outcome{Used: 4}, nil, api.ErrFail},
		{"put 5 6 del 100", nil, 99, api.Outcome{Used: 5}, nil, api.ErrKey},
		{"put 5 6 stop 1", nil, 4, api.Outcome{Used: 4}, nil, api.ErrFuel},
		{"stop 1", make([]int, 5), 9, api.Outcome{}, nil, api.ErrArg},
		{"stop 1", []int{-api.MaxValue - 1}, 9, api.Outcome{}, nil, api.ErrArg},
		{"stop 1", nil, -1, api.Outcome{}, nil, api.ErrArg},
		{"stop 1", nil, api.MaxFuel + 1, api.Outcome{}, nil, api.ErrArg},
		{"stop", nil, 9, api.Outcome{}, nil, api.ErrSource},
	} {
		held := store()
		got, writes, err := Run(held, x.src, x.args, x.fuel)
		if got != x.want || !slices.Equal(writes, x.writes) || err != x.err {
			t.Errorf("Run(%q, %v, %d) = %v, %v, %d, want %v, %v, %d", x.src, x.args, x.fuel, got, writes, err, x.want, x.writes, x.err)
		}
		if !slices.Equal(held.Cells(), store().Cells()) {
			t.Errorf("Run(%q) changed what is held: %v", x.src, held.Cells())
		}
	}
}

// Tokens that no reader gives do not keep the work from ending.
func TestWorkEndsWithoutTokens(t *testing.T) {
	w := work{fuel: 100, cells: cells{held: store()}}
	if _, err := w.expression(); err != api.ErrFuel || w.used != 100 {
		t.Errorf("an expression that is not there: %d, %d units", err, w.used)
	}
	w.skip()
	if err := w.statements(); err != api.OK || w.at != 0 {
		t.Errorf("statements that are not there: %d, %d", err, w.at)
	}
	for _, which := range []int{-1, 4} {
		if w.argument(which) != 0 || w.variable(which) != 0 {
			t.Errorf("argument and variable %d: %d, %d", which, w.argument(which), w.variable(which))
		}
	}
}
