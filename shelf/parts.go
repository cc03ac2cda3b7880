package shelf

import (
	"folio/api"
	"folio/lexicon"
)

// The parts.
const (
	inMain   = 0
	inFrozen = 1
	inLive   = 2
)

// Stats tells what is there, and of the parts and the rebuild.
func (s *Shelf) Stats() api.Stats {
	stats := api.Stats{Left: s.left, Handovers: s.handovers}
	if s.left > 0 {
		stats.On = 1
	}
	for _, doc := range s.docs {
		weight := len(doc.text) + 1
		switch doc.part {
		case inMain:
			stats.Main += weight
		case inFrozen:
			stats.Frozen += weight
		case inLive:
			stats.Live += weight
		}
		if doc.dead && doc.part == inMain {
			stats.Dead += weight
		}
		if !doc.dead {
			stats.Docs++
			stats.Bytes += len(doc.text)
		}
	}
	return stats
}

// work does what a change has to do behind the coming or going of a document of some weight.
func (s *Shelf) work(weight int) {
	if s.left > 0 {
		units := s.speed * weight
		s.coming.Work(units)
		s.left -= units
		if s.left <= 0 {
			s.handOver()
		}
	}
	if s.left == 0 && s.due() {
		s.begin()
	}
}

// handOver makes the index that was being built that of MAIN. It is whole: of n suffixes it needs n units, and n for each of at most bits(n) doublings, which is below WORK.
func (s *Shelf) handOver() {
	docs := make([]document, 0, len(s.docs))
	for _, doc := range s.docs {
		if doc.part == inFrozen {
			doc.part = inMain
		}
		if !doc.out {
			docs = append(docs, doc)
		}
	}
	s.docs = docs
	s.main = s.coming
	s.coming = lexicon.Lexicon{}
	s.left = 0
	s.handovers++
}

// due tells whether a rebuild is to begin, if none is on.
func (s *Shelf) due() bool {
	stats := s.Stats()
	return stats.Live >= s.buffer || 2*stats.Dead > stats.Main
}

// begin starts a rebuild.
func (s *Shelf) begin() {
	n := 0
	docs := make([]document, 0, len(s.docs))
	for _, doc := range s.docs {
		if doc.part == inLive {
			doc.part = inFrozen
		}
		doc.out = doc.dead
		if !doc.dead {
			s.coming.Add(doc.id, doc.text)
			n += len(doc.text) + 1
		}
		docs = append(docs, doc)
	}
	s.docs = docs
	s.left = (n + 1) * (bits(n) + 3)
	s.speed = upwards(s.left, s.buffer/2)
}

// bits tells how many binary digits a number has.
func bits(n int) int {
	count := 0
	for n > 0 {
		n = n / 2
		count++
	}
	return count
}

// upwards divides and rounds upwards, by 1 at least.
func upwards(n int, by int) int {
	if by < 1 {
		by = 1
	}
	return (n + by - 1) / by
}
