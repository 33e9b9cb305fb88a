// Package run works out the sources of procedures, over the cells of a store.
package run

import (
	"cellar/api"
	"cellar/contents"
	"cellar/source"
)

// Run works out a source. What is held stays as it is: the list tells what the
// source leaves in the cells that it put or deleted.
func Run(held *contents.Contents, src string, args []int, fuel int) (api.Outcome, []Write, api.Errno) {
	if !mayRun(args, fuel) {
		return api.Outcome{}, nil, api.ErrArg
	}
	tokens, _, err := source.Read(src)
	if err != api.OK {
		return api.Outcome{}, nil, err
	}
	w := work{tokens: tokens, fuel: fuel, cells: cells{held: held}}
	for i := 0; i < len(args) && i < len(w.args); i++ {
		w.args[i] = args[i]
	}
	err = w.statements()
	if err != api.OK {
		return api.Outcome{Used: w.used}, nil, err
	}
	return api.Outcome{Value: w.result, Used: w.used}, w.cells.writes, api.OK
}

func mayRun(args []int, fuel int) bool {
	if len(args) > api.MaxArgs || fuel < 0 || fuel > api.MaxFuel {
		return false
	}
	for i := 0; i < len(args); i++ {
		if args[i] < -api.MaxValue || args[i] > api.MaxValue {
			return false
		}
	}
	return true
}

// work is a source while it is worked out.
type work struct {
	tokens  []source.Token
	at      int // the next token
	args    [api.MaxArgs]int
	vars    [api.MaxVars]int
	cells   cells
	fuel    int
	used    int
	stopped bool
	result  int
}

// next goes past a token. Behind the last one it gives one that is Unknown.
func (w *work) next() source.Token {
	if w.at < 0 || w.at >= len(w.tokens) {
		return source.Token{}
	}
	token := w.tokens[w.at]
	w.at++
	return token
}

// unit uses a unit of fuel. Every recursion and every round of a while comes
// by here, so that the work ends.
func (w *work) unit() api.Errno {
	if w.used >= w.fuel {
		return api.ErrFuel
	}
	w.used++
	return api.OK
}
