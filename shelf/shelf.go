// Package shelf: the documents that are there, and where bytes stand in them.
package shelf

import (
	"folio/api"
	"folio/suffix"
)

type document struct {
	id   int
	text string
}

// Shelf keeps the documents that are there, by rising ids. An empty one is ready for use.
type Shelf struct {
	docs []document
	// Documents that are gone are not kept, so what is there does not tell which ids have been given.
	next int
}

// Add takes a document, and tells its id.
func (s *Shelf) Add(text string) int {
	id := s.next
	s.docs = append(s.docs, document{id: id, text: text})
	s.next++
	return id
}

// Remove lets the document of an id go, if it is there.
func (s *Shelf) Remove(id int) {
	// A new list, since the spare room of the old one would go on holding a text.
	rest := make([]document, 0, len(s.docs))
	for _, doc := range s.docs {
		if doc.id != id {
			rest = append(rest, doc)
		}
	}
	s.docs = rest
}

// Find tells the bytes of the document of an id, and whether it is there.
func (s *Shelf) Find(id int) (string, bool) {
	for _, doc := range s.docs {
		if doc.id == id {
			return doc.text, true
		}
	}
	return "", false
}

// Docs tells how many documents are there.
func (s *Shelf) Docs() int {
	return len(s.docs)
}

// Bytes tells how many bytes the documents have together.
func (s *Shelf) Bytes() int {
	sum := 0
	for _, doc := range s.docs {
		sum += len(doc.text)
	}
	return sum
}

// Ids lists the first n of the ids above one.
func (s *Shelf) Ids(after int, n int) []int {
	var ids []int
	for _, doc := range s.docs {
		if doc.id > after && len(ids) < n {
			ids = append(ids, doc.id)
		}
	}
	return ids
}

// Count counts a pattern's occurrences in all documents.
func (s *Shelf) Count(pattern string) int {
	sum := 0
	for _, doc := range s.docs {
		sum += suffix.Begun(doc.text, pattern)
	}
	return sum
}

// Hits lists the first n of a pattern's occurrences that stand at a place or behind it.
func (s *Shelf) Hits(pattern string, place api.Hit, n int) []api.Hit {
	var hits []api.Hit
	for _, doc := range s.docs {
		for at := first(doc, place); at <= len(doc.text) && len(hits) < n; at++ {
			if suffix.Stands(doc.text, pattern, at) {
				hits = append(hits, api.Hit{Id: doc.id, At: at})
			}
		}
	}
	return hits
}

// first tells the least offset of a document that is not ahead of a place; it is above the document's length, if there is none.
func first(doc document, place api.Hit) int {
	if doc.id < place.Id {
		return len(doc.text) + 1
	}
	if doc.id == place.Id && place.At > 0 {
		return place.At
	}
	return 0
}
