package script

import (
	"strconv"
	"strings"

	"incline/api"
)

// lineOf is a command as a line, with its byte 10.
func lineOf(c api.Command) string {
	words := []string{c.Word}
	for _, n := range c.Nums {
		words = append(words, digits(n))
	}
	return strings.Join(words, " ") + "\n"
}

func digits(n uint64) string { return strconv.FormatUint(n, 10) }

func pair(key, value uint64) string { return digits(key) + " " + digits(value) }

// pairs tells how many pairs there are, and each of them.
func pairs(l []api.Pair) string {
	var text strings.Builder
	text.WriteString(strconv.Itoa(len(l)))
	for _, p := range l {
		text.WriteString(" " + pair(p.Key, p.Value))
	}
	return text.String()
}

func either(is bool, one, other string) string {
	if is {
		return one
	}
	return other
}
