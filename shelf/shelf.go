// Package shelf: the documents that are there, the parts that they are in, and where bytes stand in them.
package shelf

import (
	"folio/api"
	"folio/lexicon"
	"folio/suffix"
)

type document struct {
	id   int
	text string
	part int
	dead bool
	// Whether it was dead when the rebuild that is on began: then it is not in the MAIN to come.
	out bool
}

// Shelf keeps documents, by rising ids: those that are there, and the dead ones of MAIN and FROZEN.
type Shelf struct {
	buffer int
	docs   []document
	// Not every document that was there is kept, so the documents do not tell which ids have been given.
	next int
	// The index of MAIN; and the one that is being built, if a rebuild is on.
	main   lexicon.Lexicon
	coming lexicon.Lexicon
	// LEFT and SPEED of the rebuild. LEFT is above 0 as long as it is on, and 0 when none is.
	left      int
	speed     int
	handovers int
}

// New makes a shelf without documents, of some Buffer.
func New(buffer int) Shelf {
	return Shelf{buffer: buffer}
}

// Add takes a document, and tells its id.
func (s *Shelf) Add(text string) int {
	id := s.next
	s.docs = append(s.docs, document{id: id, text: text, part: inLive})
	s.next++
	s.work(len(text) + 1)
	return id
}

// Remove lets the document of an id go, and tells whether it was there.
func (s *Shelf) Remove(id int) bool {
	text, there := s.Find(id)
	if !there {
		return false
	}
	// A new list, since the spare room of the old one would go on holding a text.
	rest := make([]document, 0, len(s.docs))
	for _, doc := range s.docs {
		if doc.id == id {
			doc.dead = true
		}
		if doc.part != inLive || !doc.dead {
			rest = append(rest, doc)
		}
	}
	s.docs = rest
	s.work(len(text) + 1)
	return true
}

// Find tells the bytes of the document of an id, and whether it is there.
func (s *Shelf) Find(id int) (string, bool) {
	for _, doc := range s.docs {
		if doc.id == id && !doc.dead {
			return doc.text, true
		}
	}
	return "", false
}

// Ids lists the first n of the ids above one.
func (s *Shelf) Ids(after int, n int) []int {
	var ids []int
	for _, doc := range s.docs {
		if !doc.dead && doc.id > after && len(ids) < n {
			ids = append(ids, doc.id)
		}
	}
	return ids
}

// Count counts a pattern's occurrences in all documents.
func (s *Shelf) Count(pattern string) int {
	hits := s.occurrences(pattern)
	return len(hits)
}

// Hits lists the first n of a pattern's occurrences that stand at a place or behind it.
func (s *Shelf) Hits(pattern string, place api.Hit, n int) []api.Hit {
	all := s.occurrences(pattern)
	var hits []api.Hit
	for len(hits) < n {
		hit, found := first(all, place)
		if !found {
			return hits
		}
		hits = append(hits, hit)
		place = api.Hit{Id: hit.Id, At: hit.At + 1}
	}
	return hits
}

// occurrences lists all of a pattern, in no order: in MAIN its index knows them, the other documents are read.
func (s *Shelf) occurrences(pattern string) []api.Hit {
	var hits []api.Hit
	indexed := s.main.Find(pattern)
	for _, hit := range indexed {
		_, there := s.Find(hit.Id)
		if there {
			hits = append(hits, hit)
		}
	}
	for _, doc := range s.docs {
		if doc.part == inMain || doc.dead {
			continue
		}
		for at := 0; at <= len(doc.text); at++ {
			if suffix.Stands(doc.text, pattern, at) {
				hits = append(hits, api.Hit{Id: doc.id, At: at})
			}
		}
	}
	return hits
}

// first tells which of some hits is the first that stands at a place or behind it, and whether there is one.
func first(hits []api.Hit, place api.Hit) (api.Hit, bool) {
	least := api.Hit{}
	found := false
	for _, hit := range hits {
		if behind(place, hit) {
			continue
		}
		if !found || behind(least, hit) {
			least = hit
			found = true
		}
	}
	return least, found
}

// behind tells whether a place is behind another.
func behind(place api.Hit, other api.Hit) bool {
	return place.Id > other.Id || place.Id == other.Id && place.At > other.At
}
