// Package folio: documents that come and go, and where any bytes stand in them: see DOC.md.
package folio

import (
	"folio/api"
	"folio/suffix"
)

// Index keeps documents.
type Index struct{}

// Order sorts the suffixes of a text (P3).
func Order(text string) ([]int, api.Errno) {
	if len(text) > api.MaxText {
		return nil, api.ErrLong
	}
	return suffix.Order(text), api.OK
}

// Turn tells a text's turn (P4).
func Turn(text string) (string, int, api.Errno) {
	if len(text) > api.MaxText {
		return "", 0, api.ErrLong
	}
	last, row := suffix.Turn(text)
	return last, row, api.OK
}

// Unturn gives back a turn's text (P5).
func Unturn(last string, row int) (string, api.Errno) {
	if len(last) > api.MaxText {
		return "", api.ErrLong
	}
	text, found := suffix.Unturn(last, row)
	if !found {
		return "", api.ErrTurn
	}
	return text, api.OK
}

// Rows tells which rows begin with a pattern (P6).
func Rows(last string, row int, pattern string) (int, int, api.Errno) {
	text, err := Unturn(last, row)
	if err != api.OK {
		return 0, 0, err
	}
	first, behind := suffix.Rows(text, pattern)
	return first, behind, api.OK
}

// New makes an index (P7).
func New(c api.Config) (*Index, api.Errno) { return nil, api.OK }

// Insert takes a document (P8).
func (x *Index) Insert(doc string) (int, api.Errno) { return 0, api.OK }

// Delete lets a document go (P9).
func (x *Index) Delete(id int) api.Errno { return api.OK }

// Count counts a pattern's occurrences (P10).
func (x *Index) Count(pattern string) (int, api.Errno) { return 0, api.OK }

// Locate tells a pattern's occurrences, a page at a time (P11).
func (x *Index) Locate(pattern string, version int, id int, at int) ([]api.Hit, bool, api.Errno) {
	return nil, false, api.OK
}

// Extract tells bytes of a document (P12).
func (x *Index) Extract(id int, from int, to int) (string, api.Errno) { return "", api.OK }

// List tells which documents are there (P13).
func (x *Index) List(after int, n int) ([]int, api.Errno) { return nil, api.OK }

// Version tells how many changes there have been (P13).
func (x *Index) Version() int { return 0 }

// Stats tells of the parts (P15).
func (x *Index) Stats() api.Stats { return api.Stats{} }
