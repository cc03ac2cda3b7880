package lexicon

import (
	"math/bits"
	"math/rand"
	"slices"
	"strings"
	"testing"

	"folio/api"
)

func added(texts []string) *Lexicon {
	l := &Lexicon{}
	for i, text := range texts {
		l.Add(3*i, text)
	}
	return l
}

func whole(texts []string) *Lexicon {
	l := added(texts)
	l.Work(1 << 40)
	return l
}

// places: all places at which a pattern stands, by rising ids and offsets.
func places(texts []string, pattern string) []api.Hit {
	hits := []api.Hit{}
	for i, text := range texts {
		for at := range len(text) + 1 {
			if strings.HasPrefix(text[at:], pattern) {
				hits = append(hits, api.Hit{Id: 3 * i, At: at})
			}
		}
	}
	return hits
}

func compare(a, b api.Hit) int {
	if a.Id != b.Id {
		return a.Id - b.Id
	}
	return a.At - b.At
}

func drawnTexts(r *rand.Rand, most int) []string {
	bytes := []string{"a", "ab", "abc", "\x00\x7f\x80\xff"}[r.Intn(4)]
	texts := []string{}
	for range r.Intn(most + 1) {
		text := make([]byte, r.Intn(9)*r.Intn(6))
		for i := range text {
			text[i] = bytes[r.Intn(len(bytes))]
		}
		texts = append(texts, string(text))
	}
	return texts
}

// checkSorted: every suffix of every text is there once, and they are sorted.
func checkSorted(t *testing.T, texts []string, l *Lexicon) {
	t.Helper()
	hits := []api.Hit{}
	for i, one := range l.runs {
		hits = append(hits, one.hit)
		if one.rest != texts[one.hit.Id/3][one.hit.At:] {
			t.Fatalf("%q: row %d, %v, is %q", texts, i, one.hit, one.rest)
		}
		if i > 0 && l.runs[i-1].rest > one.rest {
			t.Fatalf("%q: row %d is %q, ahead of %q", texts, i, l.runs[i-1].rest, one.rest)
		}
	}
	slices.SortFunc(hits, compare)
	if want := places(texts, ""); !slices.Equal(hits, want) {
		t.Fatalf("%q: the suffixes are %v, want %v", texts, hits, want)
	}
}

func checkFind(t *testing.T, texts []string, l *Lexicon, pattern string) {
	t.Helper()
	hits := l.Find(pattern)
	slices.SortFunc(hits, compare)
	if want := places(texts, pattern); !slices.Equal(hits, want) {
		t.Fatalf("%q: Find(%q) = %v, want %v", texts, pattern, hits, want)
	}
}

func TestFew(t *testing.T) {
	for _, texts := range [][]string{
		{}, {""}, {"", ""}, {"a"}, {"ba"}, {"a", ""}, {"", "a"}, {"banana"}, {"ab", "ab"}, {"abab", "", "b", "aba"}, {"\xff", "\x00", "", "\x80\x7f"},
	} {
		l := whole(texts)
		checkSorted(t, texts, l)
		for _, pattern := range []string{"", "a", "b", "ab", "ba", "an", "ana", "nab", "abab", "ababa", "c", "\x00", "\xff", "\x80", "\x80\x7f", "\xff\xff"} {
			checkFind(t, texts, l, pattern)
		}
	}
}

func TestDrawn(t *testing.T) {
	r := rand.New(rand.NewSource(1))
	for range 400 {
		texts := drawnTexts(r, 20)
		l := whole(texts)
		checkSorted(t, texts, l)
		for range 20 {
			pattern := strings.Join(drawnTexts(r, 2), "")
			checkFind(t, texts, l, pattern[:min(len(pattern), r.Intn(5))])
		}
	}
}

// TestOneByOne: every number of suffixes that there can be; WORK is enough, and the end is the same, whatever is done at once.
func TestOneByOne(t *testing.T) {
	r := rand.New(rand.NewSource(2))
	for n := range 461 {
		texts := []string{}
		for left := n; left > 0; {
			weight := 1 + r.Intn(min(left, 12))
			texts = append(texts, strings.Repeat("ba", 6)[:weight-1])
			left -= weight
		}
		l := added(texts)
		units := 0
		for most := (n + 1) * (bits.Len(uint(n)) + 3); units < most && !l.Whole(); {
			some := 1 + r.Intn(1+r.Intn(40))
			l.Work(some)
			units += some
		}
		if !l.Whole() {
			t.Fatalf("%d suffixes: %d units are not enough", n, units)
		}
		checkSorted(t, texts, l)
		if other := whole(texts); !slices.Equal(l.runs, other.runs) {
			t.Fatalf("%d suffixes: done bit by bit they are %v, at once %v", n, l.runs, other.runs)
		}
	}
}

// TestUnits: a unit moves one row, not more; no unit, none.
func TestUnits(t *testing.T) {
	texts := []string{"banana", "", "an", "nab"}
	l := added(texts)
	for _, units := range []int{0, -1, -1 << 63} {
		l.Work(units)
		if len(l.runs) != 0 || l.Whole() {
			t.Fatalf("Work(%d) did something", units)
		}
	}
	n := len(places(texts, ""))
	for done := 1; !l.Whole(); done++ {
		l.Work(1)
		if len(l.runs) != min(done, n) {
			t.Fatalf("%d units took %d suffixes in, of %d", done, len(l.runs), n)
		}
		if done > n && !l.Whole() && len(l.merged) != (done-n)%n {
			t.Fatalf("%d units behind the taking in of %d suffixes merged %d", done-n, n, len(l.merged))
		}
	}
	checkSorted(t, texts, l)
	before := slices.Clone(l.runs)
	l.Work(1000)
	if !slices.Equal(l.runs, before) || !l.Whole() {
		t.Errorf("work on what is whole changed it: %v, it was %v", l.runs, before)
	}
}

// TestWholeWithoutDocuments: there is nothing to do, and nothing to find.
func TestWholeWithoutDocuments(t *testing.T) {
	l := &Lexicon{}
	if !l.Whole() || len(l.Find("a")) != 0 || len(l.Find("")) != 0 {
		t.Errorf("a lexicon without documents: whole %v, Find(a) %v", l.Whole(), l.Find("a"))
	}
	l.Work(5)
	if !l.Whole() || len(l.runs) != 0 {
		t.Errorf("work on a lexicon without documents: %v", l.runs)
	}
}

// TestFindIsFresh: what comes out is the caller's.
func TestFindIsFresh(t *testing.T) {
	texts := []string{"aaa", "ba"}
	l := whole(texts)
	hits := l.Find("a")
	for i := range hits[:cap(hits)] {
		hits[:cap(hits)][i] = api.Hit{Id: -9, At: -9}
	}
	checkFind(t, texts, l, "a")
	checkSorted(t, texts, l)
}
