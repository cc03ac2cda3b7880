// Package lexicon: the suffixes of several documents, sorted step by step, and where a pattern stands among them.
package lexicon

import (
	"folio/api"
	"folio/suffix"
)

// row: a suffix, and the place where it stands.
type row struct {
	hit  api.Hit
	rest string
}

// Lexicon holds the suffixes of documents: as many as their weight. An empty one is ready for use; documents are added to it ahead of all work, and it is asked when it is whole.
type Lexicon struct {
	// Of each document that is not yet taken in, the longest suffix that is still to come.
	waiting []row
	// Sorted runs, each of as many rows as width says; the last one may be shorter.
	runs  []row
	width int
	// What is merged so far of the runs, two by two; of the two that are being merged, where the first begins, and the next row of each.
	merged []row
	start  int
	left   int
	right  int
}

// Add gives a document that is to be taken in.
func (l *Lexicon) Add(id int, text string) {
	l.waiting = append(l.waiting, row{hit: api.Hit{Id: id, At: 0}, rest: text})
}

// Whole tells whether there is nothing left to do.
func (l *Lexicon) Whole() bool {
	return len(l.waiting) == 0 && l.width >= len(l.runs)
}

// Work does some units of work, or as many as there are. A unit moves one row: n rows are taken in with n units, and merged with n units each time that the runs become twice as long.
func (l *Lexicon) Work(units int) {
	for unit := 0; unit < units && !l.Whole(); unit++ {
		if len(l.waiting) > 0 {
			l.take()
		} else {
			l.merge()
		}
	}
}

// take moves a suffix that is to come to the runs, as a run of its own.
func (l *Lexicon) take() {
	next := l.waiting[0]
	l.runs = append(l.runs, next)
	if len(next.rest) > 0 {
		l.waiting[0] = row{hit: api.Hit{Id: next.hit.Id, At: next.hit.At + 1}, rest: next.rest[1:]}
		return
	}
	l.waiting = l.waiting[1:]
	if len(l.waiting) == 0 {
		l.width = 1
		l.pair(0)
	}
}

// pair begins to merge the two runs from a row on.
func (l *Lexicon) pair(start int) {
	l.start = start
	l.left = start
	l.right = lesser(start+l.width, len(l.runs))
}

// merge moves the lesser one of the two runs' next rows; where one run is used up, that of the other.
func (l *Lexicon) merge() {
	middle := lesser(l.start+l.width, len(l.runs))
	end := lesser(middle+l.width, len(l.runs))
	if l.left < middle && (l.right >= end || l.runs[l.left].rest <= l.runs[l.right].rest) {
		l.merged = append(l.merged, l.runs[l.left])
		l.left++
	} else if l.right < end {
		l.merged = append(l.merged, l.runs[l.right])
		l.right++
	}
	if len(l.merged) < end {
		return
	}
	if end < len(l.runs) {
		l.pair(end)
	} else {
		l.double()
	}
}

// double goes on to runs of twice the width, when all are merged.
func (l *Lexicon) double() {
	l.runs = l.merged
	l.merged = nil
	l.width = 2 * l.width
	l.pair(0)
}

// Find lists the places of the suffixes that begin with a pattern, sorted as the suffixes are.
func (l *Lexicon) Find(pattern string) []api.Hit {
	var hits []api.Hit
	for at := l.ahead(pattern); at < len(l.runs); at++ {
		found := l.runs[at]
		// Suffixes that begin with the pattern stand one behind the other.
		if !suffix.Stands(found.rest, pattern, 0) {
			return hits
		}
		hits = append(hits, found.hit)
	}
	return hits
}

// ahead counts the suffixes that are sorted ahead of a pattern.
func (l *Lexicon) ahead(pattern string) int {
	low, high := 0, len(l.runs)
	for low < high {
		middle := low + (high-low)/2
		if l.runs[middle].rest < pattern {
			low = middle + 1
		} else {
			high = middle
		}
	}
	return low
}

func lesser(a int, b int) int {
	if a < b {
		return a
	}
	return b
}
