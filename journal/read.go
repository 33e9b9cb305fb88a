package journal

import (
	"cellar/api"
	"cellar/contents"
)

// maxDigits is enough for every value of a cell, and keeps a number within an int.
const maxDigits = 10

// Read gives what a store held that left these two files behind, and the file
// that tells it.
//
// A store moves from file to file: what the new one is to hold is lasting there
// before the old one is erased, and the old one is lasting before the new one
// is begun. So where both hold a record they tell the same, and where none does
// no store has been here: then there are no bytes either.
func Read(a string, b string) (*contents.Contents, int, api.Errno) {
	first, inFirst, err := readFile(a)
	if err != api.OK {
		return nil, 0, err
	}
	second, inSecond, err := readFile(b)
	if err != api.OK {
		return nil, 0, err
	}
	if inFirst {
		return first, 0, api.OK
	}
	if !inSecond && len(a)+len(b) > 0 {
		return nil, 0, api.ErrDisk
	}
	return second, 1, api.OK
}

// readFile gives what a file tells, and whether it holds a record.
func readFile(file string) (*contents.Contents, bool, api.Errno) {
	held := &contents.Contents{}
	rest := file
	for len(rest) > 0 {
		entries, behind, whole := cut(rest, recordEnd)
		if !whole {
			break
		}
		done := redo(held, entries)
		if !done {
			return nil, false, api.ErrDisk
		}
		rest = behind
	}
	return held, len(rest) < len(file), api.OK
}

// redo makes the changes again that a record tells, unless one cannot be.
func redo(held *contents.Contents, entries string) bool {
	rest := entries
	for len(rest) > 0 {
		entry, behind, whole := cut(rest, entryEnd)
		if !whole {
			return false
		}
		done := redoEntry(held, entry)
		if !done {
			return false
		}
		rest = behind
	}
	return true
}

func redoEntry(held *contents.Contents, entry string) bool {
	if len(entry) == 0 {
		return false
	}
	told := entry[1:]
	switch entry[:1] {
	case putKind:
		return redoPut(held, told)
	case delKind:
		key, isNumber := numberIn(told)
		return isNumber && held.Del(key) == api.OK
	case installKind:
		return redoInstall(held, told)
	case dropKind:
		return held.Drop(told) == api.OK
	}
	return false
}

func redoPut(held *contents.Contents, told string) bool {
	keyText, valueText, whole := cut(told, keyEnd)
	if !whole {
		return false
	}
	key, isKey := numberIn(keyText)
	value, isValue := numberIn(valueText)
	return isKey && isValue && held.Put(key, value) == api.OK
}

func redoInstall(held *contents.Contents, told string) bool {
	name, src, whole := cut(told, nameEnd)
	if !whole {
		return false
	}
	_, err := held.Install(name, src)
	return err == api.OK
}

// cut gives what stands ahead of the first mark, and what stands behind it.
func cut(text string, mark byte) (string, string, bool) {
	for i := 0; i < len(text); i++ {
		if text[i] == mark {
			return text[:i], text[i+1:], true
		}
	}
	return "", "", false
}

func numberIn(text string) (int, bool) {
	digits := text
	negative := len(text) > 0 && text[0] == '-'
	if negative {
		digits = text[1:]
	}
	if len(digits) == 0 || len(digits) > maxDigits {
		return 0, false
	}
	number := 0
	for i := 0; i < len(digits); i++ {
		if digits[i] < '0' || digits[i] > '9' {
			return 0, false
		}
		number = number*10 + int(digits[i]-'0')
	}
	if negative {
		number = -number
	}
	return number, true
}
