package shelf

import (
	"math/rand"
	"strings"
	"testing"
)

func TestBits(t *testing.T) {
	for n, want := range []int{0, 1, 2, 2, 3, 3, 3, 3, 4} {
		if got := bits(n); got != want {
			t.Errorf("bits(%d) = %d, want %d", n, got, want)
		}
	}
	for _, c := range [][2]int{{255, 8}, {256, 9}, {460, 9}, {511, 9}, {512, 10}, {1<<63 - 1, 63}, {-1, 0}, {-1 << 63, 0}} {
		if got := bits(c[0]); got != c[1] {
			t.Errorf("bits(%d) = %d, want %d", c[0], got, c[1])
		}
	}
}

func TestUpwards(t *testing.T) {
	for _, c := range [][3]int{{63, 4, 16}, {64, 4, 16}, {65, 4, 17}, {8, 4, 2}, {3, 40, 1}, {0, 4, 0}, {7, 1, 7}, {7, 0, 7}, {7, -1, 7}} {
		if got := upwards(c[0], c[1]); got != c[2] {
			t.Errorf("upwards(%d, %d) = %d, want %d", c[0], c[1], got, c[2])
		}
	}
}

// found: how many suffixes an index knows.
func found(s *Shelf) int {
	return len(s.main.Find(""))
}

// TestIndexOfMain: behind every change the index of MAIN is whole, and knows the suffixes of what is in MAIN, dead or not, and no others.
func TestIndexOfMain(t *testing.T) {
	for buffer := 1; buffer <= 80; buffer++ {
		r := rand.New(rand.NewSource(int64(buffer)))
		s := filled(buffer)
		for range 150 {
			if r.Intn(5) < 2 {
				s.Remove(r.Intn(s.next + 1))
			} else if s.Stats().Bytes < 360 {
				s.Add(strings.Repeat("ab", r.Intn(20)))
			}
			if !s.main.Whole() || found(s) != s.Stats().Main {
				t.Fatalf("Buffer %d: the index of MAIN, whole %v, knows %d suffixes: %+v", buffer, s.main.Whole(), found(s), s.Stats())
			}
			if s.left == 0 && (!s.coming.Whole() || len(s.coming.Find("")) != 0) {
				t.Fatalf("Buffer %d: no rebuild is on, but an index is being built", buffer)
			}
		}
	}
}

// TestWorkIsBounded: no change does more of the index than its units, and the change with which a rebuild begins does none.
func TestWorkIsBounded(t *testing.T) {
	s := filled(80, strings.Repeat("a", 40), strings.Repeat("b", 38))
	if s.left != 81*10 || s.speed != 21 || len(s.coming.Find("")) != 0 {
		t.Fatalf("a rebuild has begun: LEFT %d, SPEED %d, %d suffixes are taken in, want 810, 21, 0", s.left, s.speed, len(s.coming.Find("")))
	}
	s.Add("")
	s.Add("")
	s.Add("")
	if n := len(s.coming.Find("")); n > 3*s.speed {
		t.Errorf("%d suffixes are taken in with %d units", n, 3*s.speed)
	}
	if s.coming.Whole() || len(s.main.Find("")) != 0 {
		t.Errorf("with %d units the index of 80 suffixes is whole, or handed over", 3*s.speed)
	}
	for s.handovers == 0 {
		s.Add("")
	}
	if !s.main.Whole() || found(s) != 80 {
		t.Errorf("handed over, whole %v, with %d suffixes, want 80", s.main.Whole(), found(s))
	}
}

// TestNothingDeadIsHeld: what was dead when a rebuild began is let go with its handover.
func TestNothingDeadIsHeld(t *testing.T) {
	s := filled(4, "dead", "", "")
	if s.Count("dead") != 1 || len(s.main.Find("dead")) != 1 {
		t.Fatalf("the document is not in MAIN: %+v", s.Stats())
	}
	s.Remove(0)
	if s.left == 0 || len(s.main.Find("dead")) != 1 {
		t.Fatalf("no rebuild is on for what is dead: %+v", s.Stats())
	}
	s.Add("")
	s.Add("")
	if s.handovers != 2 {
		t.Fatalf("no handover: %+v", s.Stats())
	}
	if s.Count("dead") != 0 || len(s.main.Find("dead")) != 0 {
		t.Errorf("the index still knows the dead document: %v", s.main.Find("dead"))
	}
	for _, doc := range s.docs[:cap(s.docs)] {
		if doc.text == "dead" {
			t.Errorf("%+v is still held", doc)
		}
	}
}
