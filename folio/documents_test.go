package folio_test

import (
	"math/rand"
	"slices"
	"strings"
	"testing"

	"folio/api"
	"folio/folio"
)

func TestNewBounds(t *testing.T) {
	for _, c := range []api.Config{
		{Cap: 1, Buffer: 1, Page: 1}, {Cap: 400, Buffer: 80, Page: 8}, {Cap: 1, Buffer: 80, Page: 1}, {Cap: 400, Buffer: 1, Page: 8}, {Cap: 7, Buffer: 40, Page: 3},
	} {
		p := newPair(t, c)
		p.checkAll("a", "\x00", strings.Repeat("z", 16))
	}
	whole := api.Config{Cap: 100, Buffer: 10, Page: 4}
	for _, n := range extremes {
		for _, c := range []api.Config{{Cap: n, Buffer: 10, Page: 4}, {Cap: 100, Buffer: n, Page: 4}, {Cap: 100, Buffer: 10, Page: n}, {Cap: n, Buffer: n, Page: n}} {
			checkNew(t, c, n == 1)
		}
	}
	for _, n := range []int{8, 9, 80, 81, 400, 401} {
		c := whole
		c.Cap = n
		checkNew(t, c, n <= 400)
		c = whole
		c.Buffer = n
		checkNew(t, c, n <= 80)
		c = whole
		c.Page = n
		checkNew(t, c, n <= 8)
	}
}

func checkNew(t *testing.T, c api.Config, may bool) {
	t.Helper()
	x, err := folio.New(c)
	if may && (x == nil || err != api.OK) || !may && (x != nil || err != api.ErrConfig) {
		t.Errorf("P7: New(%+v) = %v, %d, it may be: %v", c, x, err, may)
	}
}

// TestDocumentsExample: the example of the document.
func TestDocumentsExample(t *testing.T) {
	p := newPair(t, api.Config{Cap: 10, Buffer: 8, Page: 2})
	for id, doc := range []string{"aaaa", "ba"} {
		if n, err := p.x.Insert(doc); n != id || err != api.OK {
			t.Fatalf("P8: Insert(%q) = %d, %d, want %d", doc, n, err, id)
		}
	}
	if n, err := p.x.Count("aa"); n != 3 || err != api.OK {
		t.Errorf("P10: Count(aa) = %d, %d, want 3", n, err)
	}
	for _, c := range []struct {
		pattern string
		id, at  int
		hits    []api.Hit
		more    bool
	}{
		{"aa", 0, 0, []api.Hit{{Id: 0, At: 0}, {Id: 0, At: 1}}, true},
		{"aa", 0, 2, []api.Hit{{Id: 0, At: 2}}, false},
		{"a", 0, 3, []api.Hit{{Id: 0, At: 3}, {Id: 1, At: 1}}, false},
	} {
		hits, more, err := p.x.Locate(c.pattern, 2, c.id, c.at)
		if !slices.Equal(hits, c.hits) || more != c.more || err != api.OK {
			t.Errorf("P11: Locate(%q, 2, %d, %d) = %v, %v, %d, want %v, %v", c.pattern, c.id, c.at, hits, more, err, c.hits, c.more)
		}
	}
	if hits, more, err := p.x.Locate("a", 1, 0, 0); hits != nil || more || err != api.ErrStale {
		t.Errorf("P11: Locate(a, 1, 0, 0) = %v, %v, %d, want ErrStale", hits, more, err)
	}
	if id, err := p.x.Insert("abcde"); id != 0 || err != api.ErrFull {
		t.Errorf("P8: Insert(abcde) = %d, %d, want ErrFull", id, err)
	}
	if version := p.x.Version(); version != 2 {
		t.Errorf("P13: Version() = %d, want 2", version)
	}
}

// TestInsertBounds: the length of a document, the bytes of all and the number of documents, each at its bound and one above it.
func TestInsertBounds(t *testing.T) {
	for _, limit := range []int{1, 2, 39, 40, 41, 399, 400} {
		p := newPair(t, api.Config{Cap: limit, Buffer: 10, Page: 8})
		p.insert(strings.Repeat("x", 41))
		p.insert(strings.Repeat("x", 1000000))
		for left := limit; left > 0; left -= 40 {
			p.insert(strings.Repeat("a", min(left, 39)+1))
			p.insert(strings.Repeat("a", min(left, 40)))
		}
		p.insert("b")
		p.insert(strings.Repeat("b", 40))
		p.insert(strings.Repeat("b", 41))
		p.insert("")
		p.checkAll("a", "b", "x")
		p.delete(0)
		p.insert("bb")
		p.insert("b")
		p.insert("b")
		p.checkAll("a", "b", "x")
	}
}

func TestSixtyDocuments(t *testing.T) {
	p := newPair(t, api.Config{Cap: 60, Buffer: 7, Page: 8})
	for range 59 {
		p.insert("a")
	}
	p.insert("")
	p.insert("")
	p.insert("a")
	p.insert("aa")
	p.insert(strings.Repeat("a", 41))
	p.checkAll("a")
	p.delete(30)
	p.insert("aa")
	p.insert("")
	p.insert("")
	p.checkAll("a")
	if n := p.plain.version; n != 62 {
		t.Errorf("there were %d changes, want 62", n)
	}
}

// TestAlike: documents that are alike are different documents, and occurrences do not go over their ends.
func TestAlike(t *testing.T) {
	p := newPair(t, api.Config{Cap: 100, Buffer: 5, Page: 3})
	for range 4 {
		p.insert("ab")
		p.insert("")
	}
	p.checkAll("a", "b", "ab", "ba", "abab")
	p.delete(2)
	p.delete(2)
	p.delete(3)
	p.checkAll("a", "b", "ab", "ba", "abab")
	p.insert("ab")
	p.checkAll("ab")
	if ids, _ := p.x.List(-1, 8); !slices.Equal(ids, []int{0, 1, 4, 5, 6, 7, 8}) {
		t.Errorf("P8, P9: an id is not given again: %v", ids)
	}
}

func TestDeleteWrong(t *testing.T) {
	p := newPair(t, api.Config{Cap: 100, Buffer: 5, Page: 3})
	p.delete(0)
	for range 3 {
		p.insert("abc")
	}
	p.delete(1)
	for _, id := range append([]int{1, 3, 4}, extremes...) {
		if id == 0 {
			continue
		}
		p.delete(id)
		p.checkAll("b")
	}
	p.delete(0)
	p.delete(0)
	p.delete(2)
	p.checkAll("b")
	p.insert("b")
	p.checkAll("b")
}

func TestPatternBounds(t *testing.T) {
	p := newPair(t, api.Config{Cap: 400, Buffer: 20, Page: 8})
	p.checkAll(strings.Repeat("a", 16))
	p.insert(strings.Repeat("a", 15))
	p.insert(strings.Repeat("a", 16))
	p.insert(strings.Repeat("a", 40))
	p.checkAll("a", strings.Repeat("a", 15), strings.Repeat("a", 16), strings.Repeat("a", 15)+"b")
	for _, pattern := range []string{"", strings.Repeat("a", 17), strings.Repeat("a", 40), strings.Repeat("a", 1000000)} {
		if n, err := p.x.Count(pattern); n != 0 || err != api.ErrPattern {
			t.Errorf("P10: Count of %d bytes = %d, %d, want ErrPattern", len(pattern), n, err)
		}
		for _, version := range append([]int{3}, extremes...) {
			hits, more, err := p.x.Locate(pattern, version, 0, 0)
			if hits != nil || more || err != api.ErrPattern {
				t.Errorf("P11: Locate of %d bytes, version %d = %v, %v, %d, want ErrPattern", len(pattern), version, hits, more, err)
			}
		}
	}
}

func TestStale(t *testing.T) {
	p := newPair(t, api.Config{Cap: 100, Buffer: 3, Page: 2})
	stale := func() {
		t.Helper()
		p.checkLocate("a", 0, 0)
		for _, version := range append([]int{p.plain.version - 1, p.plain.version + 1, -p.plain.version - 1}, extremes...) {
			if version == p.plain.version {
				continue
			}
			hits, more, err := p.x.Locate("a", version, 0, 0)
			if hits != nil || more || err != api.ErrStale {
				t.Errorf("P11: Locate(a, %d, 0, 0) at version %d = %v, %v, %d, want ErrStale", version, p.plain.version, hits, more, err)
			}
		}
	}
	stale()
	p.insert("aaa")
	stale()
	p.insert("")
	stale()
	p.delete(1)
	stale()
	p.delete(1)
	p.insert(strings.Repeat("a", 41))
	stale()
	p.insert("a")
	stale()
}

// TestPlaces: places in front of, at, between and behind all occurrences.
func TestPlaces(t *testing.T) {
	for page := 1; page <= 8; page++ {
		p := newPair(t, api.Config{Cap: 100, Buffer: 9, Page: page})
		for _, doc := range []string{"aba", "", "aaaa", "b", "ab"} {
			p.insert(doc)
		}
		p.delete(3)
		ids := append([]int{2, 3, 4, 5}, extremes...)
		offsets := append([]int{2, 3, 4, 5}, extremes...)
		for _, id := range ids {
			for _, at := range offsets {
				for _, pattern := range []string{"a", "aa", "ab", "b", "ba", "c"} {
					p.checkLocate(pattern, id, at)
				}
			}
		}
	}
}

func TestExtractOffsets(t *testing.T) {
	p := newPair(t, api.Config{Cap: 100, Buffer: 4, Page: 1})
	for _, doc := range []string{"hello", "", "x", strings.Repeat("y", 40)} {
		p.insert(doc)
	}
	p.delete(2)
	numbers := append([]int{2, 4, 5, 6, 39, 40, 41}, extremes...)
	for _, id := range append([]int{2, 3, 4}, extremes...) {
		for _, from := range numbers {
			for _, to := range numbers {
				p.checkExtract(id, from, to)
			}
		}
	}
}

func TestListBounds(t *testing.T) {
	p := newPair(t, api.Config{Cap: 100, Buffer: 4, Page: 2})
	p.checkList(-1, 1)
	for range 20 {
		p.insert("a")
	}
	for _, id := range []int{0, 3, 4, 5, 19} {
		p.delete(id)
	}
	for _, after := range append([]int{2, 3, 4, 5, 10, 17, 18, 19, 20}, extremes...) {
		for n := 1; n <= 8; n++ {
			p.checkList(after, n)
		}
		for _, n := range append([]int{9, 10}, extremes...) {
			if n == 1 {
				continue
			}
			if ids, err := p.x.List(after, n); ids != nil || err != api.ErrArg {
				t.Errorf("P13: List(%d, %d) = %v, %d, want ErrArg", after, n, ids, err)
			}
		}
	}
}

// TestAllBytes: documents and patterns are bytes, not letters.
func TestAllBytes(t *testing.T) {
	p := newPair(t, api.Config{Cap: 400, Buffer: 30, Page: 8})
	for b := 0; b < 256; b += 16 {
		doc := make([]byte, 16)
		for i := range doc {
			doc[i] = byte(b + i)
		}
		p.insert(string(doc))
	}
	p.insert("é€\xff\x00\x00\x00é")
	p.checkAll("\x00", "\x00\x00", "\x7f", "\x80", "\xff", "\xff\x00", "é", "€", "\xa9", "\xc3", "a", "\x0f\x10", "ab")
	for b := range 256 {
		p.checkCount(string([]byte{byte(b)}))
	}
}

// drawnChanges: an index of drawn changes, held against the plain one.
func drawnChanges(t *testing.T, seed int64, c api.Config, changes int) {
	t.Helper()
	r := rand.New(rand.NewSource(seed))
	bytes := []string{"a", "ab", "abc", "\x00\x80\xff"}[r.Intn(4)]
	p := newPair(t, c)
	for i := range changes {
		growing := i/40%2 == 0
		if r.Intn(3) == 0 == growing {
			p.delete(r.Intn(len(p.plain.texts)+2) - 1)
		} else {
			p.insert(drawnDoc(r, bytes))
		}
		pattern := drawnDoc(r, bytes) + bytes[:1]
		pattern = pattern[:min(len(pattern), 1+r.Intn(4))]
		p.checkCount(pattern)
		p.checkLocate(pattern, r.Intn(len(p.plain.texts)+2)-1, r.Intn(12)-1)
		if i%20 == 0 {
			p.checkAll(pattern, bytes[:1])
		}
	}
}

func TestDrawnChanges(t *testing.T) {
	r := rand.New(rand.NewSource(7))
	for seed := range 60 {
		c := api.Config{Cap: 1 + r.Intn(400), Buffer: 1 + r.Intn(80), Page: 1 + r.Intn(8)}
		drawnChanges(t, int64(seed), c, 160)
	}
}

// TestEveryBuffer: the same changes with every Buffer, so that a document is met in each part that it can be in (P14).
func TestEveryBuffer(t *testing.T) {
	for buffer := 1; buffer <= 80; buffer++ {
		drawnChanges(t, 3, api.Config{Cap: 150, Buffer: buffer, Page: 3}, 80)
		drawnChanges(t, 4, api.Config{Cap: 400, Buffer: buffer, Page: 8}, 80)
	}
}

// TestLongLife: what has gone leaves its room to others, however much has come and gone.
func TestLongLife(t *testing.T) {
	x, _ := folio.New(api.Config{Cap: 40, Buffer: 10, Page: 2})
	doc := strings.Repeat("ab", 20)
	for i := range 20000 {
		if id, err := x.Insert(doc); id != i || err != api.OK {
			t.Fatalf("P8: Insert number %d = %d, %d", i, id, err)
		}
		if n, err := x.Count("ba"); n != 19 || err != api.OK {
			t.Fatalf("P10: Count(ba) with document %d = %d, %d, want 19", i, n, err)
		}
		if err := x.Delete(i); err != api.OK {
			t.Fatalf("P9: Delete(%d) = %d", i, err)
		}
	}
	if version := x.Version(); version != 40000 {
		t.Errorf("P13: Version() = %d, want 40000", version)
	}
}
