package shelf

import (
	"slices"
	"testing"

	"folio/api"
)

func filled(buffer int, texts ...string) *Shelf {
	shelf := New(buffer)
	s := &shelf
	for _, text := range texts {
		s.Add(text)
	}
	return s
}

func TestAddAndRemove(t *testing.T) {
	s := filled(80)
	if id := s.Add("ab"); id != 0 {
		t.Errorf("the first id is %d", id)
	}
	if id := s.Add(""); id != 1 {
		t.Errorf("the second id is %d", id)
	}
	for _, c := range []struct {
		id  int
		was bool
	}{{1, true}, {1, false}, {-1, false}, {2, false}} {
		if was := s.Remove(c.id); was != c.was {
			t.Errorf("Remove(%d) = %v, want %v", c.id, was, c.was)
		}
	}
	if id := s.Add("c"); id != 2 {
		t.Errorf("an id was given again, or left out: %d, want 2", id)
	}
	if stats := s.Stats(); stats.Docs != 2 || stats.Bytes != 3 {
		t.Errorf("Stats() = %+v, want 2 documents, 3 bytes", stats)
	}
	for _, c := range []struct {
		id    int
		text  string
		there bool
	}{{0, "ab", true}, {1, "", false}, {2, "c", true}, {3, "", false}, {-1, "", false}} {
		if text, there := s.Find(c.id); text != c.text || there != c.there {
			t.Errorf("Find(%d) = %q, %v, want %q, %v", c.id, text, there, c.text, c.there)
		}
	}
}

// TestNothingIsHeld: a text that is gone is not kept in spare room.
func TestNothingIsHeld(t *testing.T) {
	s := filled(80, "a", "b", "c")
	s.Remove(2)
	s.Remove(0)
	for _, doc := range s.docs[:cap(s.docs)][len(s.docs):] {
		if doc.text != "" {
			t.Errorf("%q is still held", doc.text)
		}
	}
}

// buffers: with the first every document is soon in MAIN, with the last it stays in LIVE.
var buffers = []int{1, 2, 3, 5, 8, 80}

func TestIds(t *testing.T) {
	for _, buffer := range buffers {
		s := filled(buffer, "", "", "", "", "")
		s.Remove(2)
		for _, c := range []struct {
			after, n int
			ids      []int
		}{{-1, 9, []int{0, 1, 3, 4}}, {-1, 2, []int{0, 1}}, {1, 1, []int{3}}, {2, 9, []int{3, 4}}, {4, 9, nil}, {0, 0, nil}, {0, -1, nil}} {
			if ids := s.Ids(c.after, c.n); !slices.Equal(ids, c.ids) {
				t.Errorf("Buffer %d: Ids(%d, %d) = %v, want %v", buffer, c.after, c.n, ids, c.ids)
			}
		}
	}
}

func TestHits(t *testing.T) {
	for _, buffer := range buffers {
		s := filled(buffer, "aaa", "", "ba", "aa")
		s.Remove(3)
		if n := s.Count("a"); n != 4 {
			t.Errorf("Buffer %d: Count(a) = %d, want 4", buffer, n)
		}
		if n := s.Count("ab"); n != 0 {
			t.Errorf("Buffer %d: Count(ab) = %d, want 0", buffer, n)
		}
		for _, c := range []struct {
			place api.Hit
			n     int
			hits  []api.Hit
		}{
			{api.Hit{Id: 0, At: 0}, 9, []api.Hit{{Id: 0, At: 0}, {Id: 0, At: 1}, {Id: 0, At: 2}, {Id: 2, At: 1}}},
			{api.Hit{Id: 0, At: 1}, 2, []api.Hit{{Id: 0, At: 1}, {Id: 0, At: 2}}},
			{api.Hit{Id: 0, At: 1<<63 - 1}, 9, []api.Hit{{Id: 2, At: 1}}},
			{api.Hit{Id: -1, At: 5}, 1, []api.Hit{{Id: 0, At: 0}}},
			{api.Hit{Id: 2, At: -1 << 63}, 9, []api.Hit{{Id: 2, At: 1}}},
			{api.Hit{Id: 3, At: 0}, 9, nil},
			{api.Hit{Id: 0, At: 0}, 0, nil},
			{api.Hit{Id: 0, At: 0}, -1 << 63, nil},
		} {
			if hits := s.Hits("a", c.place, c.n); !slices.Equal(hits, c.hits) {
				t.Errorf("Buffer %d: Hits(a, %v, %d) = %v, want %v", buffer, c.place, c.n, hits, c.hits)
			}
		}
	}
}

// TestEmptyPattern: the calls refuse it; here it stands at every offset, the last too.
func TestEmptyPattern(t *testing.T) {
	for _, buffer := range buffers {
		s := filled(buffer, "ab", "")
		want := []api.Hit{{Id: 0, At: 0}, {Id: 0, At: 1}, {Id: 0, At: 2}, {Id: 1, At: 0}}
		if hits := s.Hits("", api.Hit{}, 9); !slices.Equal(hits, want) || s.Count("") != len(want) {
			t.Errorf("Buffer %d: Hits of the empty pattern: %v, Count: %d, want %v", buffer, hits, s.Count(""), want)
		}
	}
}
