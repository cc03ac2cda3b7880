package folio_test

import (
	"math"
	"strings"
	"testing"

	"folio/api"
	"folio/folio"
)

type turned struct {
	last string
	row  int
}

func TestTurnExamples(t *testing.T) {
	for _, c := range []struct {
		text string
		turn turned
	}{
		{"", turned{"", 0}},
		{"x", turned{"x", 1}},
		{"abab", turned{"bbaa", 2}},
		{"aaa", turned{"aaa", 3}},
		{"banana", turned{"annbaa", 4}},
		{"mississippi", turned{"ipssmpissii", 5}},
	} {
		last, row, err := folio.Turn(c.text)
		if last != c.turn.last || row != c.turn.row || err != api.OK {
			t.Errorf("P4: Turn(%q) = %q, %d, %d, want %v", c.text, last, row, err, c.turn)
		}
		text, err := folio.Unturn(c.turn.last, c.turn.row)
		if text != c.text || err != api.OK {
			t.Errorf("P5: Unturn(%q, %d) = %q, %d, want %q", c.turn.last, c.turn.row, text, err, c.text)
		}
	}
}

func TestTurnAgainstPlain(t *testing.T) {
	for _, text := range someTexts() {
		last, row, err := folio.Turn(text)
		wantLast, wantRow := plainTurn(text)
		if last != wantLast || row != wantRow || err != api.OK {
			t.Fatalf("P4: Turn(%q) = %q, %d, %d, want %q, %d", text, last, row, err, wantLast, wantRow)
		}
		back, err := folio.Unturn(wantLast, wantRow)
		if back != text || err != api.OK {
			t.Fatalf("P5: Unturn(%q, %d) = %q, %d, want %q", wantLast, wantRow, back, err, text)
		}
	}
}

func TestTurnTooLong(t *testing.T) {
	for _, text := range tooLong() {
		last, row, err := folio.Turn(text)
		if last != "" || row != 0 || err != api.ErrLong {
			t.Errorf("P4: Turn of %d bytes = %q, %d, %d, want ErrLong", len(text), last, row, err)
		}
	}
}

// TestUnturnWhole: of all short strings of a few bytes, with every row, those have a text that are some text's turn, and no other.
func TestUnturnWhole(t *testing.T) {
	for _, c := range []struct {
		bytes string
		n     int
	}{{"ab", 8}, {"\x00\x80\xff", 5}, {"dcba", 4}} {
		all := allTexts(c.bytes, c.n)
		texts := map[turned]string{}
		for _, text := range all {
			last, row := plainTurn(text)
			texts[turned{last, row}] = text
		}
		if len(texts) != len(all) {
			t.Fatalf("P5: %d texts have %d turns", len(all), len(texts))
		}
		for _, last := range all {
			for row := -2; row <= len(last)+2; row++ {
				checkUnturn(t, texts, last, row)
			}
		}
	}
}

func checkUnturn(t *testing.T, texts map[turned]string, last string, row int) {
	t.Helper()
	want, found := texts[turned{last, row}]
	wantErr := api.OK
	if !found {
		wantErr = api.ErrTurn
	}
	text, err := folio.Unturn(last, row)
	if text != want || err != wantErr {
		t.Fatalf("P5: Unturn(%q, %d) = %q, %d, want %q, %d", last, row, text, err, want, wantErr)
	}
}

// wrongTurns: bytes and rows that are no text's turn.
var wrongTurns = []turned{
	{"bbaa", 5}, {"bbaa", -1}, {"ab", 0},
	{"", 1}, {"", -1}, {"x", 0}, {"x", 2},
	{"aaa", 0}, {"aaa", 2}, {"aaa", 4},
	{"a", math.MaxInt}, {"a", math.MinInt}, {"", math.MaxInt}, {"", math.MinInt},
	{strings.Repeat("a", 120), 119}, {strings.Repeat("a", 120), 121},
}

func TestUnturnWrong(t *testing.T) {
	for _, c := range wrongTurns {
		text, err := folio.Unturn(c.last, c.row)
		if text != "" || err != api.ErrTurn {
			t.Errorf("P5: Unturn(%q, %d) = %q, %d, want ErrTurn", c.last, c.row, text, err)
		}
	}
}

func TestUnturnTooLong(t *testing.T) {
	for _, last := range tooLong() {
		for _, row := range []int{math.MinInt, -1, 0, 1, len(last), len(last) + 1, math.MaxInt} {
			text, err := folio.Unturn(last, row)
			if text != "" || err != api.ErrLong {
				t.Errorf("P1, P5: Unturn of %d bytes, %d = %q, %d, want ErrLong", len(last), row, text, err)
			}
		}
	}
}
