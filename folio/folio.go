// Package folio: documents that come and go, and where any bytes stand in them: see DOC.md.
package folio

import (
	"folio/api"
	"folio/suffix"
)

// Order sorts the suffixes of a text (P3).
func Order(text string) ([]int, api.Errno) {
	if len(text) > api.MaxText {
		return nil, api.ErrLong
	}
	return suffix.Order(text), api.OK
}

// Turn tells a text's turn (P4).
func Turn(text string) (string, int, api.Errno) {
	if len(text) > api.MaxText {
		return "", 0, api.ErrLong
	}
	last, row := suffix.Turn(text)
	return last, row, api.OK
}

// Unturn gives back a turn's text (P5).
func Unturn(last string, row int) (string, api.Errno) {
	if len(last) > api.MaxText {
		return "", api.ErrLong
	}
	text, found := suffix.Unturn(last, row)
	if !found {
		return "", api.ErrTurn
	}
	return text, api.OK
}

// Rows tells which rows begin with a pattern (P6).
func Rows(last string, row int, pattern string) (int, int, api.Errno) {
	text, err := Unturn(last, row)
	if err != api.OK {
		return 0, 0, err
	}
	first, behind := suffix.Rows(text, pattern)
	return first, behind, api.OK
}
