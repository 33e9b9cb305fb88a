package source

// What may still have to come in a source.
const (
	wantNothing    = 0
	wantBody       = 1 // statements, up to the source's end
	wantBlock      = 2 // statements, and the brace that closes them
	wantBraced     = 3 // a brace that opens, and a block
	wantVariable   = 4
	wantExpression = 5
)

// wants is what must still come, the next of it last. It is kept as a list
// rather than by recursion, so that one token is one step, and the reading
// plainly ends.
type wants struct {
	list []int
}

func (w *wants) push(want int) {
	w.list = append(w.list, want)
}

func (w *wants) pop() int {
	if len(w.list) == 0 {
		return wantNothing
	}
	last := len(w.list) - 1
	want := w.list[last]
	w.list = w.list[:last]
	return want
}

// mayEnd: the body alone is left, and it may be without further statements.
func (w *wants) mayEnd() bool {
	return len(w.list) == 1 && w.list[0] == wantBody
}

// take tells whether a token of this kind may come next, and goes past it.
func (w *wants) take(kind int) bool {
	want := w.pop()
	switch want {
	case wantBody:
		return w.takeStatement(want, kind)
	case wantBlock:
		if kind == Close {
			return true
		}
		return w.takeStatement(want, kind)
	case wantBraced:
		w.push(wantBlock)
		return kind == Open
	case wantVariable:
		return kind == Variable
	case wantExpression:
		return w.takeExpression(kind)
	}
	return false
}

// takeStatement lays back around, the body or block that the statement is in,
// as more statements may follow this one.
func (w *wants) takeStatement(around int, kind int) bool {
	w.push(around)
	switch kind {
	case Set:
		w.push(wantExpression)
		w.push(wantVariable)
	case Put:
		w.push(wantExpression)
		w.push(wantExpression)
	case Del, Stop:
		w.push(wantExpression)
	case If:
		w.push(wantBraced)
		w.push(wantBraced)
		w.push(wantExpression)
	case While:
		w.push(wantBraced)
		w.push(wantExpression)
	case Fail:
	default:
		return false
	}
	return true
}

func (w *wants) takeExpression(kind int) bool {
	switch kind {
	case Number, Argument, Variable:
	case Plus, Minus, Times, Less, Same:
		w.push(wantExpression)
		w.push(wantExpression)
	case ValueOf, IsThere:
		w.push(wantExpression)
	default:
		return false
	}
	return true
}
