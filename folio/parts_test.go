package folio_test

import (
	"fmt"
	"math/rand"
	"strings"
	"testing"

	"folio/api"
)

// text: a document of some weight.
func text(weight int) string {
	return strings.Repeat("abc", 14)[:weight-1]
}

// want: the numbers that the document asks for here, beside what the plain index says.
func (p *pair) want(what string, stats api.Stats) {
	p.t.Helper()
	if got := p.x.Stats(); got != stats {
		p.t.Fatalf("P15: %s: Stats() = %+v, want %+v", what, got, stats)
	}
	p.checkAll("a", "ca", "abc")
}

// TestPartsExample: the example of the document.
func TestPartsExample(t *testing.T) {
	p := newPair(t, api.Config{Cap: 10, Buffer: 8, Page: 2})
	p.want("new", api.Stats{})
	p.insert("aaaa")
	p.want("one", api.Stats{Docs: 1, Bytes: 4, Live: 5})
	p.insert("ba")
	p.want("LIVE is 8", api.Stats{Docs: 2, Bytes: 6, Frozen: 8, Left: 63, On: 1})
	p.delete(1)
	p.want("dead in FROZEN", api.Stats{Docs: 1, Bytes: 4, Frozen: 8, Left: 15, On: 1})
	p.insert("")
	p.want("a handover", api.Stats{Docs: 2, Bytes: 4, Main: 8, Live: 1, Dead: 3, Handovers: 1})
	p.delete(0)
	p.want("twice 8 is above 8", api.Stats{Docs: 1, Main: 8, Frozen: 1, Dead: 8, Left: 8, On: 1, Handovers: 1})
}

// TestLiveAtBuffer: a rebuild begins with Buffer, not below it.
func TestLiveAtBuffer(t *testing.T) {
	for buffer := 1; buffer <= 80; buffer++ {
		p := newPair(t, api.Config{Cap: 400, Buffer: buffer, Page: 2})
		for weight := 1; weight < buffer; weight++ {
			// Documents of the weights 2 and 1, so that few bytes and few documents do.
			if weight%2 == 0 {
				p.delete(len(p.plain.texts) - 1)
				p.insert("a")
			} else {
				p.insert("")
			}
			if stats := p.x.Stats(); stats.Live != weight || stats.On != 0 {
				t.Fatalf("P15: Buffer %d, the weight of LIVE is %d: %+v", buffer, weight, stats)
			}
		}
		p.insert("")
		if stats := p.x.Stats(); stats.Live != 0 || stats.Frozen != buffer || stats.On != 1 {
			t.Fatalf("P15: Buffer %d is reached: %+v", buffer, stats)
		}
	}
}

// TestLessOfEachPart: a Delete ahead of, during and with the end of a rebuild, of a document in each part.
func TestLessOfEachPart(t *testing.T) {
	p := newPair(t, api.Config{Cap: 400, Buffer: 12, Page: 3})
	p.insert(text(3))
	p.delete(0)
	p.want("out of LIVE at once", api.Stats{})
	p.insert(text(4))
	p.insert(text(3))
	p.insert(text(5)) // n is 12: WORK is 13 times 7, SPEED 91 by 6, upwards
	p.want("a rebuild", api.Stats{Docs: 3, Bytes: 9, Frozen: 12, Left: 91, On: 1})
	p.insert(text(2))
	p.want("LIVE beside it", api.Stats{Docs: 4, Bytes: 10, Frozen: 12, Live: 2, Left: 59, On: 1})
	p.delete(4)
	p.want("out of LIVE at once, and work is done", api.Stats{Docs: 3, Bytes: 9, Frozen: 12, Left: 27, On: 1})
	p.delete(2)
	p.want("dead in FROZEN, with the end of it", api.Stats{Docs: 2, Bytes: 7, Main: 12, Dead: 3, Handovers: 1})
	p.delete(3)
	// Twice 8 is above 12: n is 4, WORK is 5 times 6, SPEED 5.
	p.want("dead in MAIN", api.Stats{Docs: 1, Bytes: 3, Main: 12, Dead: 8, Left: 30, On: 1, Handovers: 1})
	p.insert("")
	p.want("LEFT less 5", api.Stats{Docs: 2, Bytes: 3, Main: 12, Live: 1, Dead: 8, Left: 25, On: 1, Handovers: 1})
	p.delete(1)
	p.want("dead in MAIN during it", api.Stats{Docs: 1, Main: 12, Live: 1, Dead: 12, Left: 5, On: 1, Handovers: 1})
	p.delete(5)
	// MAIN is the document that died meanwhile, so the next rebuild begins at once: n is 0.
	p.want("out of LIVE with the end of it", api.Stats{Main: 4, Dead: 4, Left: 3, On: 1, Handovers: 2})
	p.insert("a")
	p.want("SPEED 1", api.Stats{Docs: 1, Bytes: 1, Main: 4, Live: 2, Dead: 4, Left: 1, On: 1, Handovers: 2})
	p.insert("")
	p.want("MAIN is empty", api.Stats{Docs: 2, Bytes: 1, Live: 3, Handovers: 3})
}

// TestHalfDead: twice what is dead has to be above MAIN; what is dead in FROZEN does not count, and what died ahead of a rebuild is out of the next MAIN.
func TestHalfDead(t *testing.T) {
	p := newPair(t, api.Config{Cap: 400, Buffer: 10, Page: 3})
	for range 5 {
		p.insert(text(2))
	}
	p.want("a rebuild", api.Stats{Docs: 5, Bytes: 5, Frozen: 10, Left: 77, On: 1})
	p.delete(0)
	p.delete(1)
	p.want("dead in FROZEN", api.Stats{Docs: 3, Bytes: 3, Frozen: 10, Left: 77 - 64, On: 1})
	p.insert("")
	p.want("dead in MAIN", api.Stats{Docs: 4, Bytes: 3, Main: 10, Live: 1, Dead: 4, Handovers: 1})
	p.delete(5)
	p.insert("")
	p.want("twice 4 is not above 10", api.Stats{Docs: 4, Bytes: 3, Main: 10, Live: 1, Dead: 4, Handovers: 1})
	p.insert(text(9)) // LIVE is 10: n is 6 and 10: WORK is 17 times 8, SPEED 28
	p.want("MAIN is still with the dead", api.Stats{Docs: 5, Bytes: 11, Main: 10, Frozen: 10, Dead: 4, Left: 136, On: 1, Handovers: 1})
	p.delete(2)
	p.want("one more dies meanwhile", api.Stats{Docs: 4, Bytes: 10, Main: 10, Frozen: 10, Dead: 6, Left: 80, On: 1, Handovers: 1})
	p.delete(6)
	p.want("and one in FROZEN", api.Stats{Docs: 3, Bytes: 10, Main: 10, Frozen: 10, Dead: 6, Left: 52, On: 1, Handovers: 1})
	p.insert(text(2))
	p.want("a handover: 4 are out, 3 stay dead", api.Stats{Docs: 4, Bytes: 11, Main: 16, Live: 2, Dead: 3, Handovers: 2})
	p.delete(3)
	p.want("5 of 16", api.Stats{Docs: 3, Bytes: 10, Main: 16, Live: 2, Dead: 5, Handovers: 2})
	p.delete(4)
	p.want("7 of 16", api.Stats{Docs: 2, Bytes: 9, Main: 16, Live: 2, Dead: 7, Handovers: 2})
	p.delete(7)
	p.want("16 of 16: n is 2", api.Stats{Docs: 1, Bytes: 1, Main: 16, Frozen: 2, Dead: 16, Left: 15, On: 1, Handovers: 2})
}

// TestJustHalfDead: twice what is dead is MAIN.
func TestJustHalfDead(t *testing.T) {
	p := newPair(t, api.Config{Cap: 400, Buffer: 6, Page: 3})
	for _, weight := range []int{2, 1, 3, 3} {
		p.insert(text(weight))
	}
	p.want("a handover", api.Stats{Docs: 4, Bytes: 5, Main: 6, Live: 3, Handovers: 1})
	p.delete(2)
	p.want("twice 3 is not above 6", api.Stats{Docs: 3, Bytes: 3, Main: 6, Live: 3, Dead: 3, Handovers: 1})
	p.delete(1)
	p.want("twice 4 is: n is 2 and 3", api.Stats{Docs: 2, Bytes: 3, Main: 6, Frozen: 3, Dead: 4, Left: 36, On: 1, Handovers: 1})
}

// TestNextAtOnce: a handover, and the beginning of the next rebuild with the same change, for what is in LIVE.
func TestNextAtOnce(t *testing.T) {
	p := newPair(t, api.Config{Cap: 400, Buffer: 20, Page: 3})
	p.insert(text(20))
	p.want("a rebuild", api.Stats{Docs: 1, Bytes: 19, Frozen: 20, Left: 21 * 8, On: 1})
	p.insert(text(3))
	p.want("during it", api.Stats{Docs: 2, Bytes: 21, Frozen: 20, Live: 3, Left: 168 - 3*17, On: 1})
	p.insert(text(41)) // n is 20 and 44
	p.want("the next", api.Stats{Docs: 3, Bytes: 61, Main: 20, Frozen: 44, Left: 65 * 10, On: 1, Handovers: 1})
	p.delete(0)
	// It died while the rebuild was on, so it is in the next MAIN, and dead there.
	p.want("a handover alone", api.Stats{Docs: 2, Bytes: 42, Main: 64, Dead: 20, Handovers: 2})
	p.delete(2)
	p.want("one for the dead: n is 3", api.Stats{Docs: 1, Bytes: 2, Main: 64, Dead: 61, Left: 20, On: 1, Handovers: 2})
	p.insert(text(20))
	p.want("and the next with its end: n is 23", api.Stats{Docs: 2, Bytes: 21, Main: 3, Frozen: 20, Left: 24 * 8, On: 1, Handovers: 3})
}

// TestLeftAtNought: LEFT becomes just 0, or 1, or less.
func TestLeftAtNought(t *testing.T) {
	// n is 4: WORK is 5 times 6, SPEED 15.
	p := newPair(t, api.Config{Cap: 400, Buffer: 4, Page: 3})
	p.insert(text(4))
	p.insert("")
	p.want("half of it", api.Stats{Docs: 2, Bytes: 3, Frozen: 4, Live: 1, Left: 15, On: 1})
	p.insert("")
	p.want("just 0", api.Stats{Docs: 3, Bytes: 3, Main: 4, Live: 2, Handovers: 1})
	// n is 24: WORK is 25 times 8, SPEED 200 by 12, upwards: 17. Eleven times that leave 13.
	p = newPair(t, api.Config{Cap: 400, Buffer: 24, Page: 3})
	p.insert(text(24))
	p.insert(text(11))
	p.want("not yet", api.Stats{Docs: 2, Bytes: 33, Frozen: 24, Live: 11, Left: 13, On: 1})
	p.delete(1)
	p.want("below 0", api.Stats{Docs: 1, Bytes: 23, Main: 24, Handovers: 1})
}

// TestBufferBounds: the half of Buffer is whole, and at least 1.
func TestBufferBounds(t *testing.T) {
	for _, c := range []struct{ buffer, first, work, left int }{
		{1, 1, 8, 0}, {1, 41, 42 * 9, 0}, {2, 2, 15, 0}, {2, 41, 42 * 9, 0}, {3, 3, 20, 0}, {4, 4, 30, 15}, {5, 5, 36, 18}, {6, 6, 42, 28}, {7, 7, 48, 32},
	} {
		p := newPair(t, api.Config{Cap: 400, Buffer: c.buffer, Page: 3})
		p.insert(text(c.first))
		p.want(fmt.Sprintf("Buffer %d", c.buffer), api.Stats{Docs: 1, Bytes: c.first - 1, Frozen: c.first, Left: c.work, On: 1})
		p.insert("")
		stats := p.x.Stats()
		if c.left > 0 && stats.Left != c.left || c.left == 0 && (stats.Handovers != 1 || stats.Main != c.first) {
			t.Errorf("P15: Buffer %d, one unit of weight: %+v, want LEFT %d", c.buffer, stats, c.left)
		}
	}
	for _, buffer := range []int{79, 80} {
		p := newPair(t, api.Config{Cap: 400, Buffer: buffer, Page: 3})
		p.insert(text(40))
		p.insert(text(38))
		p.want("LIVE is 78", api.Stats{Docs: 2, Bytes: 76, Live: 78})
		p.insert("")
		if buffer == 80 {
			p.want("LIVE is 79", api.Stats{Docs: 3, Bytes: 76, Live: 79})
			p.insert("")
			p.want("n is 80", api.Stats{Docs: 4, Bytes: 76, Frozen: 80, Left: 810, On: 1})
			p.insert(text(38)) // SPEED is 810 by 40, upwards: 21
			p.want("38 of 40", api.Stats{Docs: 5, Bytes: 113, Frozen: 80, Live: 38, Left: 12, On: 1})
			continue
		}
		p.want("n is 79", api.Stats{Docs: 3, Bytes: 76, Frozen: 79, Left: 800, On: 1})
		p.insert(text(38)) // SPEED is 800 by 39, upwards: 21
		p.want("38 of 39", api.Stats{Docs: 4, Bytes: 113, Frozen: 79, Live: 38, Left: 2, On: 1})
		p.delete(2)
		p.want("a handover", api.Stats{Docs: 3, Bytes: 113, Main: 79, Live: 38, Dead: 1, Handovers: 1})
	}
}

// TestRefusedIsNoChange: with and without a rebuild; the units that the refused change would have done are not done.
func TestRefusedIsNoChange(t *testing.T) {
	p := newPair(t, api.Config{Cap: 30, Buffer: 12, Page: 3})
	refused := func(stats api.Stats) {
		t.Helper()
		for range 3 {
			p.insert(strings.Repeat("a", 31-stats.Bytes))
			p.insert(strings.Repeat("a", 41))
			for _, id := range append([]int{0, len(p.plain.texts)}, extremes...) {
				if !p.plain.there(id) {
					p.delete(id)
				}
			}
		}
		p.want("refused", stats)
	}
	p.insert("")
	p.delete(0)
	refused(api.Stats{})
	p.insert(text(11))
	refused(api.Stats{Docs: 1, Bytes: 10, Live: 11})
	p.insert("")
	refused(api.Stats{Docs: 2, Bytes: 10, Frozen: 12, Left: 91, On: 1})
	p.delete(2)
	refused(api.Stats{Docs: 1, Bytes: 10, Frozen: 12, Left: 75, On: 1})
	p.insert(text(5))
	refused(api.Stats{Docs: 2, Bytes: 14, Main: 12, Live: 5, Dead: 1, Handovers: 1})
	p.delete(1)
	refused(api.Stats{Docs: 1, Bytes: 4, Main: 12, Frozen: 5, Dead: 12, Left: 36, On: 1, Handovers: 1})
}

// TestNeverRefusedForARebuild: up to the last byte, and to the last document, with a rebuild on (P16).
func TestNeverRefusedForARebuild(t *testing.T) {
	for buffer := 1; buffer <= 80; buffer++ {
		p := newPair(t, api.Config{Cap: 400, Buffer: buffer, Page: 8})
		on := 0
		for id := range 60 {
			on += p.x.Stats().On
			doc := strings.Repeat("a", []int{4, 16, 0}[id%3])
			if n, err := p.x.Insert(doc); n != id || err != api.OK {
				t.Fatalf("P16: Buffer %d: Insert number %d = %d, %d, with %+v", buffer, id, n, err, p.x.Stats())
			}
		}
		if on == 0 || p.x.Stats().Bytes != 400 {
			t.Errorf("Buffer %d: a rebuild was on ahead of %d Inserts: %+v", buffer, on, p.x.Stats())
		}
	}
}

// answers: what the questions of P10 to P13 answer, in one string.
func (p *pair) answers() string {
	all := fmt.Sprint(p.x.Version())
	for _, pattern := range []string{"a", "b", "ab", "ba", "aa", "bab", "c"} {
		n, err := p.x.Count(pattern)
		all += fmt.Sprint(" ", n, err)
		for id := range p.plain.texts {
			hits, more, err := p.x.Locate(pattern, p.x.Version(), id, id%3)
			all += fmt.Sprint(" ", hits, more, err)
		}
	}
	for id := range p.plain.texts {
		doc, err := p.x.Extract(id, 0, 1)
		ids, other := p.x.List(id-1, 1+id%8)
		all += fmt.Sprint(" ", doc, err, ids, other)
	}
	return all
}

// TestWhateverPart: the same changes with different Buffers: the parts differ, the answers do not (P14).
func TestWhateverPart(t *testing.T) {
	pairs := []*pair{}
	for _, buffer := range []int{1, 2, 3, 5, 8, 12, 20, 33, 50, 79, 80} {
		pairs = append(pairs, newPair(t, api.Config{Cap: 200, Buffer: buffer, Page: 4}))
	}
	r := rand.New(rand.NewSource(11))
	differ := 0
	for i := range 90 {
		doc, id, grow := drawnDoc(r, "ab"), r.Intn(i+1), r.Intn(3) > 0
		for _, p := range pairs {
			if grow {
				p.insert(doc)
			} else {
				p.delete(id)
			}
		}
		want, parts := pairs[0].answers(), [3]int{}
		for _, p := range pairs {
			if got := p.answers(); got != want {
				t.Fatalf("P14: change %d: Buffer %d answers\n%s\nBuffer 1 answers\n%s", i, p.plain.config.Buffer, got, want)
			}
			stats := p.x.Stats()
			parts[0] += min(1, stats.Main)
			parts[1] += min(1, stats.Frozen)
			parts[2] += min(1, stats.Live)
		}
		if parts[0] > 1 && parts[1] > 1 && parts[2] > 1 {
			differ++
		}
	}
	if differ < 50 {
		t.Errorf("only behind %d changes were documents in each of the parts", differ)
	}
}

// TestGoneFromEachPart: one document that is found while it is there, and not any more behind its Delete, in each part (P14).
func TestGoneFromEachPart(t *testing.T) {
	for _, c := range []struct {
		part   string
		behind []string
		is     api.Stats
	}{
		{"LIVE", []string{"", "a"}, api.Stats{Docs: 3, Bytes: 5, Live: 8}},
		{"FROZEN", []string{"", "a", "b"}, api.Stats{Docs: 4, Bytes: 6, Frozen: 10, Left: 77, On: 1}},
		{"MAIN", []string{"", "a", "b", "abcd"}, api.Stats{Docs: 5, Bytes: 10, Main: 10, Live: 5, Handovers: 1}},
		{"MAIN, with a rebuild on", []string{"", "a", "b", "abcd", "abcd"}, api.Stats{Docs: 6, Bytes: 14, Main: 10, Frozen: 10, Left: 21 * 8, On: 1, Handovers: 1}},
	} {
		p := newPair(t, api.Config{Cap: 100, Buffer: 10, Page: 8})
		p.insert("xaxa")
		for _, doc := range c.behind {
			p.insert(doc)
		}
		p.want(c.part, c.is)
		p.checkAll("x", "xa", "ax", "xax", "xaxa", "xaxab")
		p.delete(0)
		p.checkAll("x", "xa", "ax", "xax", "xaxa", "a")
		if n, _ := p.x.Count("x"); n != 0 {
			t.Errorf("P10: gone from %s, and still found %d times", c.part, n)
		}
		for range 12 {
			p.insert("ax")
			p.checkAll("x", "xa", "ax", "a")
		}
	}
}

// TestPartsAreApart: the parts of one index are not those of another (P2).
func TestPartsAreApart(t *testing.T) {
	c := api.Config{Cap: 100, Buffer: 4, Page: 8}
	p, q := newPair(t, c), newPair(t, c)
	for i := range 12 {
		p.insert(text(1 + i%4))
		q.checkStats()
		if i%3 == 0 {
			q.insert("ab")
			q.delete(i / 6)
			p.checkStats()
		}
	}
	p.checkAll("a", "ab")
	q.checkAll("a", "ab")
}

// TestQuestionsDoNotWork: a question does none of the units (P2).
func TestQuestionsDoNotWork(t *testing.T) {
	p := newPair(t, api.Config{Cap: 100, Buffer: 12, Page: 8})
	p.insert(text(12))
	p.insert("a")
	before := p.x.Stats()
	for range 50 {
		p.checkAll("a", "ab", "x")
		p.answers()
		p.x.Count("")
		p.x.Locate("a", -1, 0, 0)
		p.x.Extract(9, 0, 0)
		p.x.List(0, 0)
	}
	if stats := p.x.Stats(); stats != before || stats.On != 1 {
		t.Errorf("P2: Stats() = %+v behind questions, it was %+v", stats, before)
	}
}

// TestDrawnParts: every Buffer, with documents of many weights, light ones, and heavy ones.
func TestDrawnParts(t *testing.T) {
	for buffer := 1; buffer <= 80; buffer++ {
		for kind := range 4 {
			r := rand.New(rand.NewSource(int64(100*buffer + kind)))
			p := newPair(t, api.Config{Cap: []int{400, 60, 400, 5}[kind], Buffer: buffer, Page: 8})
			for i := range 250 {
				grow := 2 + i/50%2*2
				if r.Intn(6) < grow {
					p.insert(text([]int{1 + r.Intn(41), 1 + r.Intn(4), 41 - r.Intn(20), 1}[kind]))
				} else {
					p.delete(r.Intn(len(p.plain.texts) + 1))
				}
			}
			p.checkAll("a", "bc", "cab")
			// Sixty documents without bytes do not reach the greatest Buffers.
			if kind < 3 && p.x.Stats().Handovers == 0 {
				t.Errorf("Buffer %d, kind %d: no handover in all these changes", buffer, kind)
			}
		}
	}
}
