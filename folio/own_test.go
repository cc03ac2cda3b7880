package folio_test

import (
	"slices"
	"strings"
	"testing"

	"folio/api"
)

// TestListsAreTheCallers: a write into a list that came out, and into its spare room, changes nothing else (P2).
func TestListsAreTheCallers(t *testing.T) {
	p := newPair(t, api.Config{Cap: 100, Buffer: 4, Page: 3})
	for range 5 {
		p.insert("aa")
	}
	ids, _ := p.x.List(-1, 3)
	others, _ := p.x.List(-1, 3)
	hits, _, _ := p.x.Locate("a", 5, 0, 0)
	more, _, _ := p.x.Locate("a", 5, 0, 0)
	ids = ids[:cap(ids)]
	for i := range ids {
		ids[i] = -9
	}
	hits = hits[:cap(hits)]
	for i := range hits {
		hits[i] = api.Hit{Id: -9, At: -9}
	}
	if !slices.Equal(others, []int{0, 1, 2}) {
		t.Errorf("P2: another list has become %v", others)
	}
	if !slices.Equal(more, []api.Hit{{Id: 0, At: 0}, {Id: 0, At: 1}, {Id: 1, At: 0}}) {
		t.Errorf("P2: another page has become %v", more)
	}
	p.checkAll("a", "aa")
	p.insert("a")
	p.delete(2)
	p.checkAll("a", "aa")
}

// TestIndexesAreApart: what is done to one index is not seen in another (P2).
func TestIndexesAreApart(t *testing.T) {
	c := api.Config{Cap: 100, Buffer: 6, Page: 3}
	p, q := newPair(t, c), newPair(t, c)
	p.insert("abc")
	q.checkAll("a")
	q.insert("bca")
	q.insert("aa")
	p.checkAll("a", "bc")
	p.delete(0)
	p.insert("c")
	q.checkAll("a", "bc")
	q.delete(0)
	p.checkAll("a", "c")
	q.checkAll("a", "c")
}

// TestWrongCallsChangeNothing: neither the documents, nor the version, nor the id that is given next (P1).
func TestWrongCallsChangeNothing(t *testing.T) {
	p := newPair(t, api.Config{Cap: 20, Buffer: 6, Page: 3})
	p.insert("abcabcabc")
	p.insert("")
	for range 3 {
		p.insert(strings.Repeat("b", 12))
		p.insert(strings.Repeat("b", 40))
		p.insert(strings.Repeat("b", 41))
		p.delete(-1)
		p.delete(len(p.plain.texts))
		p.x.Count("")
		p.x.Locate("", p.plain.version, 0, 0)
		p.x.Locate("a", p.plain.version+1, 0, 0)
		p.x.Extract(7, 0, 0)
		p.x.Extract(0, 4, 3)
		p.x.List(0, 0)
		p.checkAll("a", "b", "abc")
		p.insert("b")
		p.checkAll("a", "b", "abc")
	}
}
