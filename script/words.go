package script

import (
	"math"
	"strings"

	"incline/api"
)

// numbersOf is how many NUMBERs stand behind a word; false, if it is no command's.
func numbersOf(word string) (int, bool) {
	switch word {
	case "stats", "save", "load":
		return 0, true
	case "del", "get", "floor", "ceil", "rank":
		return 1, true
	case "put", "range", "path":
		return 2, true
	case "map":
		return 3, true
	}
	return 0, false
}

// kindOf is the kind of the operation that a word asks for; false, if it asks for none.
func kindOf(word string) (int, bool) {
	switch word {
	case "put":
		return api.OpPut, true
	case "del":
		return api.OpDelete, true
	case "get":
		return api.OpGet, true
	case "floor":
		return api.OpFloor, true
	case "ceil":
		return api.OpCeil, true
	case "rank":
		return api.OpRank, true
	case "range":
		return api.OpRange, true
	}
	return 0, false
}

// check tells what is wrong with a word that so many others, or numbers, stand behind.
func check(word string, behind int) api.Errno {
	n, is := numbersOf(word)
	if !is {
		return api.ErrScriptCommand
	}
	if behind != n {
		return api.ErrScriptWords
	}
	return api.OK
}

// wordsOf are the words of a line. Blanks alone part them: a tab, or whatever else is white, is a byte of a word.
func wordsOf(line string) []string {
	return strings.FieldsFunc(line, func(r rune) bool { return r == ' ' })
}

// command reads the words of a line, which has one at least. Its Word is a copy, so that it does not keep the whole text.
func command(words []string) (api.Command, api.Errno) {
	word, behind := words[0], words[1:]
	if e := check(word, len(behind)); e != api.OK {
		return api.Command{}, e
	}
	c := api.Command{Word: strings.Clone(word)}
	for _, w := range behind {
		n, is := number(w)
		if !is {
			return api.Command{}, api.ErrScriptNumber
		}
		c.Nums = append(c.Nums, n)
	}
	return c, api.OK
}

// number reads a NUMBER; false, if the word is none. Bytes that are no UTF-8 come as a rune that is no digit, so they are refused like all others.
func number(word string) (uint64, bool) {
	n := uint64(0)
	for i, r := range word {
		if r < '0' || r > '9' || i > 0 && n == 0 { // a 0 is the first digit only where it is the last, too
			return 0, false
		}
		digit := uint64(r - '0')
		if n > (math.MaxUint64-digit)/10 {
			return 0, false
		}
		n = 10*n + digit
	}
	return n, word != ""
}
