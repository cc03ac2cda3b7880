package folio_test

import (
	"slices"
	"testing"

	"folio/api"
	"folio/folio"
)

func TestOrderExamples(t *testing.T) {
	for _, c := range []struct {
		text  string
		order []int
	}{
		{"", []int{0}},
		{"abab", []int{4, 2, 0, 3, 1}},
		{"aaa", []int{3, 2, 1, 0}},
		{"\x80\x7f", []int{2, 1, 0}},
		{"\x00\x00\xff", []int{3, 0, 1, 2}},
	} {
		order, err := folio.Order(c.text)
		if !slices.Equal(order, c.order) || err != api.OK {
			t.Errorf("P3: Order(%q) = %v, %d, want %v", c.text, order, err, c.order)
		}
	}
}

func TestOrderAgainstPlain(t *testing.T) {
	for _, text := range someTexts() {
		order, err := folio.Order(text)
		if want := plainOrder(text); !slices.Equal(order, want) || err != api.OK {
			t.Fatalf("P3: Order(%q) = %v, %d, want %v", text, order, err, want)
		}
	}
}

func TestOrderTooLong(t *testing.T) {
	for _, text := range tooLong() {
		order, err := folio.Order(text)
		if len(order) != 0 || err != api.ErrLong {
			t.Errorf("P3: Order of %d bytes = %v, %d, want ErrLong", len(text), order, err)
		}
	}
}

func TestOrderIsTheCallers(t *testing.T) {
	one, _ := folio.Order("banana")
	two, _ := folio.Order("banana")
	room := one[:cap(one)]
	for i := range room {
		room[i] = -9
	}
	three, _ := folio.Order("banana")
	want := []int{6, 5, 3, 1, 0, 4, 2}
	if !slices.Equal(two, want) || !slices.Equal(three, want) {
		t.Errorf("P2: behind a write into one list: %v and %v, want %v", two, three, want)
	}
}
