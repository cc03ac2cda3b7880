package folio

import (
	"folio/api"
	"folio/shelf"
)

// Index keeps documents.
type Index struct {
	config  api.Config
	docs    shelf.Shelf
	version int
}

// New makes an index (P7).
func New(c api.Config) (*Index, api.Errno) {
	if c.Cap < 1 || c.Cap > api.MaxCap {
		return nil, api.ErrConfig
	}
	if c.Buffer < 1 || c.Buffer > api.MaxBuffer {
		return nil, api.ErrConfig
	}
	if c.Page < 1 || c.Page > api.MaxPage {
		return nil, api.ErrConfig
	}
	return &Index{config: c, docs: shelf.New(c.Buffer)}, api.OK
}

// Insert takes a document (P8).
func (x *Index) Insert(doc string) (int, api.Errno) {
	if len(doc) > api.MaxDoc {
		return 0, api.ErrLong
	}
	stats := x.docs.Stats()
	if stats.Bytes+len(doc) > x.config.Cap || stats.Docs >= api.MaxDocs {
		return 0, api.ErrFull
	}
	id := x.docs.Add(doc)
	x.version++
	return id, api.OK
}

// Delete lets a document go (P9).
func (x *Index) Delete(id int) api.Errno {
	there := x.docs.Remove(id)
	if !there {
		return api.ErrNone
	}
	x.version++
	return api.OK
}

// Count counts a pattern's occurrences (P10).
func (x *Index) Count(pattern string) (int, api.Errno) {
	if len(pattern) < 1 || len(pattern) > api.MaxPattern {
		return 0, api.ErrPattern
	}
	return x.docs.Count(pattern), api.OK
}

// Locate tells a pattern's occurrences, a page at a time (P11).
func (x *Index) Locate(pattern string, version int, id int, at int) ([]api.Hit, bool, api.Errno) {
	if len(pattern) < 1 || len(pattern) > api.MaxPattern {
		return nil, false, api.ErrPattern
	}
	if version != x.version {
		return nil, false, api.ErrStale
	}
	// One more than a page holds shows whether there are more.
	hits := x.docs.Hits(pattern, api.Hit{Id: id, At: at}, x.config.Page+1)
	if len(hits) > x.config.Page {
		return hits[:x.config.Page], true, api.OK
	}
	return hits, false, api.OK
}

// Extract tells bytes of a document (P12).
func (x *Index) Extract(id int, from int, to int) (string, api.Errno) {
	doc, there := x.docs.Find(id)
	if !there {
		return "", api.ErrNone
	}
	if from < 0 || from > to || to > len(doc) {
		return "", api.ErrRange
	}
	return doc[from:to], api.OK
}

// List tells which documents are there (P13).
func (x *Index) List(after int, n int) ([]int, api.Errno) {
	if n < 1 || n > api.MaxPage {
		return nil, api.ErrArg
	}
	return x.docs.Ids(after, n), api.OK
}

// Version tells how many changes there have been (P13).
func (x *Index) Version() int { return x.version }

// Stats tells of the parts (P15).
func (x *Index) Stats() api.Stats { return x.docs.Stats() }
