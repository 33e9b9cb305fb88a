package run

import (
	"cellar/api"
	"cellar/source"
)

// statements works out statements up to the brace that closes them, or to the
// source's end, and goes past it.
func (w *work) statements() api.Errno {
	for !w.stopped {
		token := w.next()
		if token.Kind == source.Close || token.Kind == source.Unknown {
			return api.OK
		}
		err := w.statement(token.Kind)
		if err != api.OK {
			return err
		}
	}
	return api.OK
}

func (w *work) statement(kind int) api.Errno {
	if kind == source.While {
		return w.while()
	}
	err := w.unit()
	if err != api.OK {
		return err
	}
	switch kind {
	case source.Set:
		return w.set()
	case source.Put:
		return w.put()
	case source.Del:
		return w.del()
	case source.If:
		return w.choose()
	case source.Stop:
		return w.stop()
	}
	return api.ErrFail
}

func (w *work) set() api.Errno {
	variable := w.next()
	value, err := w.expression()
	if err != api.OK {
		return err
	}
	if variable.Value >= 0 && variable.Value < len(w.vars) {
		w.vars[variable.Value] = value
	}
	return api.OK
}

func (w *work) put() api.Errno {
	key, err := w.expression()
	if err != api.OK {
		return err
	}
	value, err := w.expression()
	if err != api.OK {
		return err
	}
	return w.cells.write(Write{Key: key, There: true, Value: value})
}

func (w *work) del() api.Errno {
	key, err := w.expression()
	if err != api.OK {
		return err
	}
	return w.cells.write(Write{Key: key})
}

func (w *work) stop() api.Errno {
	value, err := w.expression()
	if err != api.OK {
		return err
	}
	w.result = value
	w.stopped = true
	return api.OK
}

func (w *work) choose() api.Errno {
	value, err := w.expression()
	if err != api.OK {
		return err
	}
	if value == 0 {
		w.skip()
		return w.block()
	}
	err = w.block()
	w.skip()
	return err
}

// while uses a unit in each round, where another statement uses one in all.
func (w *work) while() api.Errno {
	start := w.at
	for !w.stopped {
		w.at = start
		err := w.unit()
		if err != api.OK {
			return err
		}
		value, err := w.expression()
		if err != api.OK {
			return err
		}
		if value == 0 {
			w.skip()
			return api.OK
		}
		err = w.block()
		if err != api.OK {
			return err
		}
	}
	return api.OK
}

// block works out statements in braces.
func (w *work) block() api.Errno {
	w.next()
	return w.statements()
}

// skip goes past statements in braces.
func (w *work) skip() {
	deep := 0
	for w.at < len(w.tokens) {
		token := w.next()
		if token.Kind == source.Open {
			deep++
		}
		if token.Kind == source.Close {
			deep--
		}
		if deep == 0 {
			return
		}
	}
}
