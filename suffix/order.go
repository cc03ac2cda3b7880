// Package suffix: the suffixes of a text, sorted as in a lexicon, and the turn that keeps the text in their order.
package suffix

// Ahead counts the suffixes of a text that are sorted ahead of some bytes.
func Ahead(text string, bytes string) int {
	count := 0
	for at := 0; at <= len(text); at++ {
		// Go compares strings byte by byte, as the lexicon does.
		if text[at:] < bytes {
			count++
		}
	}
	return count
}

// Stands tells whether a pattern's bytes stand in a text at an offset.
func Stands(text string, pattern string, at int) bool {
	if at < 0 || at > len(text)-len(pattern) {
		return false
	}
	return text[at:at+len(pattern)] == pattern
}

// Begun counts the suffixes of a text that begin with a pattern.
func Begun(text string, pattern string) int {
	count := 0
	for at := 0; at <= len(text); at++ {
		if Stands(text, pattern, at) {
			count++
		}
	}
	return count
}

// Order lists the offsets of a text's suffixes, sorted.
func Order(text string) []int {
	order := make([]int, len(text)+1)
	for at := 0; at <= len(text); at++ {
		// No two suffixes are the same, and none is ahead of itself: so each has a row of its own, and it is one of the list.
		row := Ahead(text, text[at:])
		order[row] = at
	}
	return order
}

// Rows tells the first row whose suffix begins with a pattern, and the first behind all that do.
func Rows(text string, pattern string) (int, int) {
	// A suffix that begins with the pattern is not ahead of it, and nothing else stands between two such suffixes.
	first := Ahead(text, pattern)
	count := Begun(text, pattern)
	return first, first + count
}
