package script

import (
	"strconv"
	"strings"
)

// party is one's name; that of an account without one is empty.
type party string

// parity is whether totals are even.
type parity bool

// row is a line that is told.
func row(parts ...any) string {
	words := make([]string, len(parts))
	for i, x := range parts {
		words[i] = word(x)
	}
	return strings.Join(words, " ")
}

// word is a row's part, as it is told.
func word(part any) string {
	switch x := part.(type) {
	case int:
		return strconv.Itoa(x)
	case int64:
		return strconv.FormatInt(x, 10)
	case party:
		// An empty word would look as if there were none.
		if x == "" {
			return "-"
		}
		return string(x)
	case parity:
		if x {
			return "even"
		}
		return "odd"
	case string:
		return x
	}
	return ""
}

// number is the one that a word tells, from 0 to so many; false: it tells none.
func number(word string, most int) (int, bool) {
	// What isn't a number's figures, without needless noughts, is read as a number that has others.
	n, _ := strconv.Atoi(word)
	if n < 0 || n > most || strconv.Itoa(n) != word {
		return 0, false
	}
	return n, true
}

// numbers are those that words tell, each of one byte; false: one of them tells none.
func numbers(words []string, most int) ([]uint8, bool) {
	var l []uint8
	for _, w := range words {
		n, ok := number(w, most)
		if !ok {
			return nil, false
		}
		l = append(l, uint8(n))
	}
	return l, true
}
