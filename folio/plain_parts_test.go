package folio_test

import (
	"fmt"

	"folio/api"
)

// plainParts: the ids of the documents that are in each part; of a rebuild, the ids that will be in MAIN (whether they are dead by then or not), and what is still to do.
type plainParts struct {
	main, frozen, live []int
	coming             []int
	on                 bool
	left, speed        int
	handovers          int
}

func (p *plainIndex) weight(ids []int) int {
	sum := 0
	for _, id := range ids {
		sum += len(p.texts[id]) + 1
	}
	return sum
}

// dead: which of some documents are dead, or are not.
func (p *plainIndex) dead(ids []int, dead bool) []int {
	some := []int{}
	for _, id := range ids {
		if p.gone[id] == dead {
			some = append(some, id)
		}
	}
	return some
}

// rebuild: the second and the third thing that are done with a change.
func (p *plainIndex) rebuild(weight int) {
	parts := &p.parts
	if parts.on {
		parts.left -= parts.speed * weight
		if parts.left <= 0 {
			parts.main, parts.frozen, parts.on = parts.coming, nil, false
			parts.handovers++
		}
	}
	if !parts.on && (p.weight(parts.live) >= p.config.Buffer || 2*p.weight(p.dead(parts.main, true)) > p.weight(parts.main)) {
		parts.frozen, parts.live, parts.on = parts.live, nil, true
		parts.coming = append(p.dead(parts.main, false), parts.frozen...)
		n := p.weight(parts.coming)
		digits := 0
		if n > 0 {
			digits = len(fmt.Sprintf("%b", n))
		}
		parts.left = (n + 1) * (digits + 3)
		parts.speed = 0
		for half := max(1, p.config.Buffer/2); parts.speed*half < parts.left; {
			parts.speed++
		}
	}
}

func (p *plainIndex) stats() api.Stats {
	stats := api.Stats{
		Docs:      len(p.ids()),
		Bytes:     p.weight(p.ids()) - len(p.ids()),
		Main:      p.weight(p.parts.main),
		Frozen:    p.weight(p.parts.frozen),
		Live:      p.weight(p.parts.live),
		Dead:      p.weight(p.dead(p.parts.main, true)),
		Handovers: p.parts.handovers,
	}
	if p.parts.on {
		stats.Left, stats.On = p.parts.left, 1
	}
	return stats
}

// checkStats: every field (P15); asking changes none.
func (p *pair) checkStats() {
	p.t.Helper()
	for range 2 {
		if stats, want := p.x.Stats(), p.plain.stats(); stats != want {
			p.t.Fatalf("P15: %+v: version %d: Stats() = %+v, want %+v", p.plain.config, p.plain.version, stats, want)
		}
	}
}

// checkParts: behind a call of Insert or Delete: every field of Stats, and what P16 says, which does not ask the plain index.
func (p *pair) checkParts(before api.Stats, err api.Errno, weight int) {
	p.t.Helper()
	p.checkStats()
	stats := p.x.Stats()
	if err != api.OK {
		if stats != before {
			p.t.Fatalf("P1: %+v: refused with %d: Stats() = %+v, it was %+v", p.plain.config, err, stats, before)
		}
		return
	}
	if before.On == 1 {
		p.since += weight
	}
	if stats.Live >= p.plain.config.Buffer {
		p.t.Fatalf("P16: %+v: LIVE is not below Buffer: %+v", p.plain.config, stats)
	}
	if before.On == 1 && stats.Handovers == before.Handovers && p.since >= max(1, p.plain.config.Buffer/2) {
		p.t.Fatalf("P16: %+v: %d came and went since the rebuild began, and there was no handover: %+v", p.plain.config, p.since, stats)
	}
	if stats.Handovers != before.Handovers {
		p.since = 0
	}
}
