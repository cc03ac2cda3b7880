package folio_test

import (
	"math/rand"
	"slices"
	"strings"
	"testing"

	"folio/api"
	"folio/folio"
)

// extremes: numbers at and around the ends of what a number can be.
var extremes = []int{-1 << 63, -1<<63 + 1, -1 << 62, -1 << 32, -1, 0, 1, 1 << 32, 1 << 62, 1<<63 - 2, 1<<63 - 1}

// plainIndex: every document that ever came, in the order of their ids, and which of them are gone.
type plainIndex struct {
	config  api.Config
	texts   []string
	gone    []bool
	version int
	parts   plainParts
}

func (p *plainIndex) there(id int) bool {
	return id >= 0 && id < len(p.texts) && !p.gone[id]
}

func (p *plainIndex) ids() []int {
	ids := []int{}
	for id := range p.texts {
		if p.there(id) {
			ids = append(ids, id)
		}
	}
	return ids
}

func (p *plainIndex) insert(doc string) (int, api.Errno) {
	if len(doc) > 40 {
		return 0, api.ErrLong
	}
	sum := len(doc)
	for _, id := range p.ids() {
		sum += len(p.texts[id])
	}
	if sum > p.config.Cap || len(p.ids()) == 60 {
		return 0, api.ErrFull
	}
	p.texts = append(p.texts, doc)
	p.gone = append(p.gone, false)
	p.version++
	p.parts.live = append(p.parts.live, len(p.texts)-1)
	p.rebuild(len(doc) + 1)
	return len(p.texts) - 1, api.OK
}

func (p *plainIndex) delete(id int) api.Errno {
	if !p.there(id) {
		return api.ErrNone
	}
	p.gone[id] = true
	p.version++
	p.parts.live = slices.DeleteFunc(p.parts.live, func(other int) bool { return other == id })
	p.rebuild(len(p.texts[id]) + 1)
	return api.OK
}

func (p *plainIndex) hits(pattern string) []api.Hit {
	hits := []api.Hit{}
	for _, id := range p.ids() {
		for at := range len(p.texts[id]) {
			if strings.HasPrefix(p.texts[id][at:], pattern) {
				hits = append(hits, api.Hit{Id: id, At: at})
			}
		}
	}
	return hits
}

// page: what P11 asks for, of a pattern that may be.
func (p *plainIndex) page(pattern string, id, at int) ([]api.Hit, bool) {
	rest := []api.Hit{}
	for _, h := range p.hits(pattern) {
		if h.Id > id || h.Id == id && h.At >= at {
			rest = append(rest, h)
		}
	}
	if len(rest) > p.config.Page {
		return rest[:p.config.Page], true
	}
	return rest, false
}

func (p *plainIndex) list(after, n int) []int {
	ids := []int{}
	for _, id := range p.ids() {
		if id > after && len(ids) < n {
			ids = append(ids, id)
		}
	}
	return ids
}

// pair: an index, and what it has to be like.
type pair struct {
	t     *testing.T
	x     *folio.Index
	plain plainIndex
	// The weights that came and went since the rebuild that is on began.
	since int
}

func newPair(t *testing.T, c api.Config) *pair {
	t.Helper()
	x, err := folio.New(c)
	if x == nil || err != api.OK {
		t.Fatalf("P7: New(%+v) = %v, %d", c, x, err)
	}
	return &pair{t: t, x: x, plain: plainIndex{config: c}}
}

func (p *pair) insert(doc string) {
	p.t.Helper()
	before := p.x.Stats()
	id, err := p.x.Insert(doc)
	if wantId, want := p.plain.insert(doc); id != wantId || err != want {
		p.t.Fatalf("P8: %+v: Insert(%.50q) = %d, %d, want %d, %d", p.plain.config, doc, id, err, wantId, want)
	}
	p.checkVersion()
	p.checkParts(before, err, len(doc)+1)
}

func (p *pair) delete(id int) {
	p.t.Helper()
	before := p.x.Stats()
	err := p.x.Delete(id)
	if want := p.plain.delete(id); err != want {
		p.t.Fatalf("P9: %+v: Delete(%d) = %d, want %d", p.plain.config, id, err, want)
	}
	p.checkVersion()
	weight := 0
	if err == api.OK {
		weight = len(p.plain.texts[id]) + 1
	}
	p.checkParts(before, err, weight)
}

func (p *pair) checkVersion() {
	p.t.Helper()
	if version := p.x.Version(); version != p.plain.version {
		p.t.Fatalf("P13: %+v: Version() = %d, want %d", p.plain.config, version, p.plain.version)
	}
}

func (p *pair) checkCount(pattern string) {
	p.t.Helper()
	n, err := p.x.Count(pattern)
	if want := len(p.plain.hits(pattern)); n != want || err != api.OK {
		p.t.Fatalf("P10: %+v: Count(%q) = %d, %d, want %d", p.plain.config, pattern, n, err, want)
	}
}

func (p *pair) checkLocate(pattern string, id, at int) {
	p.t.Helper()
	hits, more, err := p.x.Locate(pattern, p.plain.version, id, at)
	want, wantMore := p.plain.page(pattern, id, at)
	if !slices.Equal(hits, want) || more != wantMore || err != api.OK {
		p.t.Fatalf("P11: %+v: Locate(%q, %d, %d, %d) = %v, %v, %d, want %v, %v", p.plain.config, pattern, p.plain.version, id, at, hits, more, err, want, wantMore)
	}
}

func (p *pair) checkExtract(id, from, to int) {
	p.t.Helper()
	text, err := p.x.Extract(id, from, to)
	want, wantErr := "", api.ErrNone
	if p.plain.there(id) {
		wantErr = api.ErrRange
		doc := p.plain.texts[id]
		if 0 <= from && from <= to && to <= len(doc) {
			want, wantErr = doc[from:to], api.OK
		}
	}
	if text != want || err != wantErr {
		p.t.Fatalf("P12: %+v: Extract(%d, %d, %d) = %q, %d, want %q, %d", p.plain.config, id, from, to, text, err, want, wantErr)
	}
}

func (p *pair) checkList(after, n int) {
	p.t.Helper()
	ids, err := p.x.List(after, n)
	if want := p.plain.list(after, n); !slices.Equal(ids, want) || err != api.OK {
		p.t.Fatalf("P13: %+v: List(%d, %d) = %v, %d, want %v", p.plain.config, after, n, ids, err, want)
	}
}

// checkPages: whoever goes on behind the last hit is told all, page by page.
func (p *pair) checkPages(pattern string) {
	p.t.Helper()
	all := []api.Hit{}
	place, more := api.Hit{}, true
	for more {
		p.checkLocate(pattern, place.Id, place.At)
		var hits []api.Hit
		hits, more, _ = p.x.Locate(pattern, p.x.Version(), place.Id, place.At)
		all = append(all, hits...)
		if more {
			place = hits[len(hits)-1]
			place.At++
		}
	}
	if want := p.plain.hits(pattern); !slices.Equal(all, want) {
		p.t.Fatalf("P11: %+v: all pages of %q: %v, want %v", p.plain.config, pattern, all, want)
	}
}

// checkAll: every document, every list, and these patterns.
func (p *pair) checkAll(patterns ...string) {
	p.t.Helper()
	p.checkVersion()
	for id := -1; id <= len(p.plain.texts); id++ {
		p.checkList(id, 1+(id+1)%8)
		if !p.plain.there(id) {
			p.checkExtract(id, 0, 0)
			continue
		}
		n := len(p.plain.texts[id])
		p.checkExtract(id, 0, n)
		p.checkExtract(id, n/3, n/2)
		p.checkExtract(id, n, n)
		p.checkExtract(id, 0, n+1)
	}
	for _, pattern := range patterns {
		p.checkCount(pattern)
		p.checkPages(pattern)
	}
}

// drawnDoc: few different bytes, so that patterns are found often; often empty, or of the greatest length.
func drawnDoc(r *rand.Rand, bytes string) string {
	n := []int{0, 1, 2, 3, 4, 5, 6, 8, 12, 20, 39, 40, 41}[r.Intn(13)]
	doc := make([]byte, n)
	for i := range doc {
		doc[i] = bytes[r.Intn(len(bytes))]
	}
	return string(doc)
}
