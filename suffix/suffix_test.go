package suffix

import (
	"slices"
	"strings"
	"testing"
)

func TestCounts(t *testing.T) {
	for _, c := range []struct {
		text, bytes  string
		ahead, begun int
	}{
		{"", "", 0, 1},
		{"", "a", 1, 0},
		{"aaaa", "aa", 2, 3},
		{"banana", "nab", 6, 0},
		{"banana", "ana", 2, 2},
		{"a\x80", "\x7f", 2, 0},
		{"ab", "abc", 2, 0},
	} {
		if ahead := Ahead(c.text, c.bytes); ahead != c.ahead {
			t.Errorf("Ahead(%q, %q) = %d, want %d", c.text, c.bytes, ahead, c.ahead)
		}
		if begun := Begun(c.text, c.bytes); begun != c.begun {
			t.Errorf("Begun(%q, %q) = %d, want %d", c.text, c.bytes, begun, c.begun)
		}
	}
}

func TestStands(t *testing.T) {
	for _, c := range []struct {
		text, pattern string
		at            int
		stands        bool
	}{
		{"abab", "ab", 0, true},
		{"abab", "ab", 1, false},
		{"abab", "ab", 2, true},
		{"abab", "ab", 3, false},
		{"abab", "", 4, true},
		{"abab", "", 5, false},
		{"abab", "a", -1, false},
		{"abab", "ababa", 0, false},
		{"abab", "ab", 1<<63 - 1, false},
		{"abab", "ab", -1 << 63, false},
		{"", "", 0, true},
	} {
		if stands := Stands(c.text, c.pattern, c.at); stands != c.stands {
			t.Errorf("Stands(%q, %q, %d) = %v, want %v", c.text, c.pattern, c.at, stands, c.stands)
		}
	}
}

// TestNoBound: the bound of a text is the calls' own; here a text may be longer.
func TestNoBound(t *testing.T) {
	text := strings.Repeat("cabbage", 50)
	order := Order(text)
	if !slices.IsSortedFunc(order, func(a, b int) int { return strings.Compare(text[a:], text[b:]) }) {
		t.Errorf("Order of %d bytes is not sorted: %v", len(text), order)
	}
	last, row := Turn(text)
	back, found := Unturn(last, row)
	if back != text || !found {
		t.Errorf("Unturn of Turn of %d bytes = %q, %v", len(text), back, found)
	}
	first, behind := Rows(text, "cab")
	if behind-first != 50 || order[first] != len(text)-7 {
		t.Errorf("Rows of %d bytes = %d, %d", len(text), first, behind)
	}
}

func TestUnturnRefuses(t *testing.T) {
	for _, row := range []int{-1, 0, 1, 3, 5} {
		if text, found := Unturn("aaaa", row); text != "" || found {
			t.Errorf("Unturn(aaaa, %d) = %q, %v", row, text, found)
		}
	}
}
