package folio_test

import (
	"math"
	"strings"
	"testing"

	"folio/api"
	"folio/folio"
)

func TestRowsExamples(t *testing.T) {
	for _, c := range []struct {
		turn          turned
		pattern       string
		first, behind int
	}{
		{turned{"annbaa", 4}, "an", 2, 4},
		{turned{"annbaa", 4}, "nab", 6, 6},
		{turned{"annbaa", 4}, "", 0, 7},
		{turned{"annbaa", 4}, "banana", 4, 5},
		{turned{"annbaa", 4}, "bananaa", 5, 5},
		{turned{"annbaa", 4}, "\x00", 1, 1},
		{turned{"annbaa", 4}, "\xff", 7, 7},
		{turned{"", 0}, "", 0, 1},
		{turned{"", 0}, "\x00", 1, 1},
		{turned{strings.Repeat("a", 120), 120}, strings.Repeat("a", 120), 120, 121},
		{turned{strings.Repeat("a", 120), 120}, strings.Repeat("a", 121), 121, 121},
		{turned{strings.Repeat("a", 120), 120}, strings.Repeat("a", 119) + "\x00", 120, 120},
		{turned{"ipssmpissii", 5}, strings.Repeat("s", 1000000), 12, 12},
	} {
		first, behind, err := folio.Rows(c.turn.last, c.turn.row, c.pattern)
		if first != c.first || behind != c.behind || err != api.OK {
			t.Errorf("P6: Rows(%v, %.20q) = %d, %d, %d, want %d, %d", c.turn, c.pattern, first, behind, err, c.first, c.behind)
		}
	}
}

func checkRows(t *testing.T, text, pattern string) {
	t.Helper()
	last, row := plainTurn(text)
	first, behind, err := folio.Rows(last, row, pattern)
	wantFirst, wantBehind := plainRows(text, pattern)
	if first != wantFirst || behind != wantBehind || err != api.OK {
		t.Fatalf("P6: Rows(%q, %d, %q) = %d, %d, %d, want %d, %d", last, row, pattern, first, behind, err, wantFirst, wantBehind)
	}
}

func TestRowsAgainstPlain(t *testing.T) {
	patterns := allTexts("ab", 4)
	for _, text := range allTexts("ab", 6) {
		for _, pattern := range patterns {
			checkRows(t, text, pattern)
		}
	}
	patterns = allTexts("\x00\x7f\x80\xff", 2)
	for _, text := range allTexts("\x00\x80\xff", 4) {
		for _, pattern := range patterns {
			checkRows(t, text, pattern)
		}
	}
}

// TestRowsOfLongTexts: patterns that stand in a text, and the same with another last byte, or with one more.
func TestRowsOfLongTexts(t *testing.T) {
	for i, text := range drawnTexts(2, 60) {
		at := i % (len(text) + 1)
		for _, n := range []int{1, 2, 5, 120} {
			pattern := text[at:min(at+n, len(text))]
			checkRows(t, text, pattern)
			checkRows(t, text, pattern+"\x00")
			checkRows(t, text, pattern+"\xff")
			if pattern != "" {
				checkRows(t, text, pattern[:len(pattern)-1]+"\xfe")
			}
		}
	}
}

func TestRowsWrong(t *testing.T) {
	for _, pattern := range []string{"", "a", "zz", strings.Repeat("a", 1000)} {
		for _, c := range wrongTurns {
			first, behind, err := folio.Rows(c.last, c.row, pattern)
			if first != 0 || behind != 0 || err != api.ErrTurn {
				t.Errorf("P6: Rows(%q, %d, %.20q) = %d, %d, %d, want ErrTurn", c.last, c.row, pattern, first, behind, err)
			}
		}
		for _, last := range tooLong() {
			for _, row := range []int{math.MinInt, -1, 0, len(last), math.MaxInt} {
				first, behind, err := folio.Rows(last, row, pattern)
				if first != 0 || behind != 0 || err != api.ErrLong {
					t.Errorf("P1, P6: Rows of %d bytes, %d, %.20q = %d, %d, %d, want ErrLong", len(last), row, pattern, first, behind, err)
				}
			}
		}
	}
}
