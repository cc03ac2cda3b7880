package suffix

// Turn tells, row by row, the byte ahead of the row's suffix, and the row that has none.
func Turn(text string) (string, int) {
	order := Order(text)
	last := make([]byte, 0, len(text))
	whole := 0
	for row, at := range order {
		if at == 0 {
			whole = row
		} else {
			last = append(last, text[at-1])
		}
	}
	return string(last), whole
}

// Unturn tells the text of a turn, or that there is none.
func Unturn(last string, row int) (string, bool) {
	if row < 0 || row > len(last) {
		return "", false
	}
	text := make([]byte, len(last))
	// Row 0 is that of the empty suffix. No step leads to it and no two lead to one row, so no row is met twice: a way that does not end at the whole text's row too early has met every row.
	at := 0
	for i := len(last) - 1; i >= 0; i-- {
		if at == row {
			return "", false
		}
		place := at
		if at > row {
			place--
		}
		text[i] = last[place]
		at = longer(last, place)
	}
	return string(text), true
}

// longer tells the row of the suffix that begins with the byte at a place of the turn. Suffixes that begin with the same byte are sorted as what stands behind that byte is, and so as their places in the turn are.
func longer(last string, place int) int {
	row := 1
	for i := 0; i < len(last); i++ {
		if last[i] < last[place] || last[i] == last[place] && i < place {
			row++
		}
	}
	return row
}
