package run

import (
	"cellar/api"
	"cellar/source"
)

func (w *work) expression() (int, api.Errno) {
	err := w.unit()
	if err != api.OK {
		return 0, err
	}
	token := w.next()
	switch token.Kind {
	case source.Number:
		return token.Value, api.OK
	case source.Argument:
		return w.argument(token.Value), api.OK
	case source.Variable:
		return w.variable(token.Value), api.OK
	case source.ValueOf, source.IsThere:
		return w.look(token.Kind)
	}
	return w.reckon(token.Kind)
}

func (w *work) argument(which int) int {
	if which < 0 || which >= len(w.args) {
		return 0
	}
	return w.args[which]
}

func (w *work) variable(which int) int {
	if which < 0 || which >= len(w.vars) {
		return 0
	}
	return w.vars[which]
}

// look works out what is asked of a cell: its value, or whether it is there.
func (w *work) look(kind int) (int, api.Errno) {
	key, err := w.expression()
	if err != api.OK {
		return 0, err
	}
	value, there, err := w.cells.get(key)
	if err != api.OK {
		return 0, err
	}
	if kind == source.IsThere {
		return oneIf(there), api.OK
	}
	return value, api.OK
}

// reckon works out what is made of two expressions.
func (w *work) reckon(kind int) (int, api.Errno) {
	first, err := w.expression()
	if err != api.OK {
		return 0, err
	}
	second, err := w.expression()
	if err != api.OK {
		return 0, err
	}
	switch kind {
	case source.Less:
		return oneIf(first < second), api.OK
	case source.Same:
		return oneIf(first == second), api.OK
	}
	return bounded(reckoned(kind, int64(first), int64(second)))
}

// reckoned takes 64 bits, as an int may have fewer than a product needs.
func reckoned(kind int, first int64, second int64) int64 {
	switch kind {
	case source.Plus:
		return first + second
	case source.Minus:
		return first - second
	}
	return first * second
}

func bounded(value int64) (int, api.Errno) {
	if value < -api.MaxValue || value > api.MaxValue {
		return 0, api.ErrOver
	}
	return int(value), api.OK
}

func oneIf(holds bool) int {
	if holds {
		return 1
	}
	return 0
}
