package cellar_test

import (
	"maps"
	"strconv"

	"cellar/api"
)

// node: a statement or an expression, its parts in their order. A block is a
// node with the word "{".
type node struct {
	word  string
	parts []node
}

// tree reads a right source into a block: the work is done over a tree here,
// and not over the tokens.
func tree(src string) node {
	tokens := append(referenceTokens(src), "}")
	block, _ := blockOf(tokens)
	return block
}

// blockOf: the statements up to a closing brace, and what comes behind it.
func blockOf(tokens []string) (node, []string) {
	block := node{word: "{"}
	for tokens[0] != "}" {
		var part node
		part, tokens = nodeOf(tokens)
		block.parts = append(block.parts, part)
	}
	return block, tokens[1:]
}

func nodeOf(tokens []string) (node, []string) {
	word, rest := tokens[0], tokens[1:]
	if word == "{" {
		return blockOf(rest)
	}
	x := node{word: word}
	for n := partsOf(word); n > 0; n-- {
		var part node
		part, rest = nodeOf(rest)
		x.parts = append(x.parts, part)
	}
	return x, rest
}

func partsOf(word string) int {
	switch word {
	case "if":
		return 3
	case "+", "-", "*", "<", "=", "set", "put", "while":
		return 2
	case "@", "#", "del", "stop":
		return 1
	}
	return 0
}

// reckoner works a tree out, on cells of its own.
type reckoner struct {
	cells   map[int]int
	written map[int]bool
	args    [4]int
	vars    map[string]int
	left    int
	used    int
}

// ending: what ends the work ahead of the source's end; it is thrown.
type ending struct {
	value int
	err   api.Errno
}

// referenceCall works out a source (P8), and gives the cells as they are then.
func referenceCall(src string, cells map[int]int, args []int, fuel int) (map[int]int, api.Outcome, api.Errno) {
	k := &reckoner{cells: maps.Clone(cells), written: map[int]bool{}, vars: map[string]int{}, left: fuel}
	copy(k.args[:], args)
	end := k.workOut(tree(src))
	return k.cells, api.Outcome{Value: end.value, Used: k.used}, end.err
}

func (k *reckoner) workOut(x node) (end ending) {
	defer func() {
		if thrown := recover(); thrown != nil {
			end = thrown.(ending)
		}
	}()
	k.block(x)
	return end
}

func (k *reckoner) endIf(holds bool, err api.Errno) {
	if holds {
		panic(ending{err: err})
	}
}

func (k *reckoner) unit() {
	k.endIf(k.left == 0, api.ErrFuel)
	k.left--
	k.used++
}

func (k *reckoner) block(x node) {
	for _, part := range x.parts {
		k.statement(part)
	}
}

func (k *reckoner) statement(x node) {
	k.unit()
	switch x.word {
	case "set":
		k.vars[x.parts[0].word] = k.value(x.parts[1])
	case "put":
		key := k.value(x.parts[0])
		value := k.value(x.parts[1])
		k.write(key)
		k.cells[key] = value
	case "del":
		key := k.value(x.parts[0])
		k.write(key)
		delete(k.cells, key)
	case "if":
		if k.value(x.parts[0]) != 0 {
			k.block(x.parts[1])
		} else {
			k.block(x.parts[2])
		}
	case "while":
		if k.value(x.parts[0]) != 0 {
			k.block(x.parts[1])
			k.statement(x)
		}
	case "stop":
		panic(ending{value: k.value(x.parts[0])})
	case "fail":
		panic(ending{err: api.ErrFail})
	}
}

func (k *reckoner) write(key int) {
	k.endIf(key < 0 || key > 99, api.ErrKey)
	k.written[key] = true
	k.endIf(len(k.written) > 8, api.ErrWide)
}

func (k *reckoner) value(x node) int {
	k.unit()
	var parts []int
	for _, part := range x.parts {
		parts = append(parts, k.value(part))
	}
	switch x.word {
	case "+":
		return k.within(parts[0] + parts[1])
	case "-":
		return k.within(parts[0] - parts[1])
	case "*":
		return k.within(parts[0] * parts[1])
	case "<":
		return map[bool]int{true: 1}[parts[0] < parts[1]]
	case "=":
		return map[bool]int{true: 1}[parts[0] == parts[1]]
	case "@":
		k.endIf(parts[0] < 0 || parts[0] > 99, api.ErrKey)
		return k.cells[parts[0]]
	case "#":
		k.endIf(parts[0] < 0 || parts[0] > 99, api.ErrKey)
		_, there := k.cells[parts[0]]
		return map[bool]int{true: 1}[there]
	}
	switch x.word[0] {
	case 'a':
		return k.args[x.word[1]-'0']
	case 'v':
		return k.vars[x.word]
	}
	number, _ := strconv.Atoi(x.word)
	return number
}

func (k *reckoner) within(value int) int {
	k.endIf(value < -1000000000 || value > 1000000000, api.ErrOver)
	return value
}
