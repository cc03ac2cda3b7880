package folio_test

import (
	"math/rand"
	"strings"
)

// The plain* functions answer the slow and obvious way, so that the program is held against something that shares no code with it.

// plainAhead: whether a goes ahead of b in the lexicon.
func plainAhead(a, b string) bool {
	for i := 0; i < len(a) && i < len(b); i++ {
		if a[i] != b[i] {
			return int(a[i]) < int(b[i])
		}
	}
	return len(a) < len(b)
}

func plainOrder(text string) []int {
	order := []int{}
	for at := 0; at <= len(text); at++ {
		row := 0
		for row < len(order) && plainAhead(text[order[row]:], text[at:]) {
			row++
		}
		order = append(order[:row], append([]int{at}, order[row:]...)...)
	}
	return order
}

func plainTurn(text string) (string, int) {
	last, whole := "", -1
	for row, at := range plainOrder(text) {
		if at == 0 {
			whole = row
			continue
		}
		last += text[at-1 : at]
	}
	return last, whole
}

func plainRows(text, pattern string) (int, int) {
	first, behind, ahead := -1, -1, 0
	for row, at := range plainOrder(text) {
		if strings.HasPrefix(text[at:], pattern) {
			if first < 0 {
				first = row
			}
			behind = row + 1
		}
		if plainAhead(text[at:], pattern) {
			ahead++
		}
	}
	if first < 0 {
		return ahead, ahead
	}
	return first, behind
}

// allTexts: every text of at most n of these bytes.
func allTexts(bytes string, n int) []string {
	all := []string{""}
	from := 0
	for range n {
		to := len(all)
		for _, s := range all[from:to] {
			for i := range len(bytes) {
				all = append(all, s+bytes[i:i+1])
			}
		}
		from = to
	}
	return all
}

// drawnTexts: texts of up to 120 bytes, of few and of many different bytes, some of them repeating themselves.
func drawnTexts(seed int64, n int) []string {
	r := rand.New(rand.NewSource(seed))
	kinds := []int{1, 2, 3, 20, 256}
	texts := []string{}
	for range n {
		kind := kinds[r.Intn(len(kinds))]
		b := make([]byte, r.Intn(121))
		period := 1 + r.Intn(130)
		for i := range b {
			b[i] = byte(255 - r.Intn(kind))
			if i >= period {
				b[i] = b[i-period]
			}
		}
		texts = append(texts, string(b))
	}
	return texts
}

// someTexts: all short texts of a few bytes, and drawn ones.
func someTexts() []string {
	texts := allTexts("ab", 8)
	texts = append(texts, allTexts("\x00\x7f\x80\xff", 4)...)
	texts = append(texts, drawnTexts(1, 150)...)
	return append(texts, strings.Repeat("a", 120), strings.Repeat("ab", 60), strings.Repeat("ba", 60), strings.Repeat("\xff", 119)+"\x00")
}

// tooLong: texts above the bound, the least of them by one byte.
func tooLong() []string {
	return []string{strings.Repeat("a", 121), strings.Repeat("ab", 61), strings.Repeat("\x00", 1000), strings.Repeat("xyz", 1000000)}
}
