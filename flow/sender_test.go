package flow

import (
	"slices"
	"testing"
)

// A missing number is known with the time at which it was found.
func TestFoundAtThisTime(t *testing.T) {
	s := NewSender(3)
	s.Take(65534, 5, 8)
	s.Take(1, 6, 8)
	s.Take(65535, 7, 8)
	s.Take(3, 1000000, 8)
	want := []numbered[gap]{{0, gap{last: 6}}, {2, gap{last: 1000000}}}
	if !slices.Equal(s.listed, want) {
		t.Errorf("missing: %v, want %v", s.listed, want)
	}
}

// Asked for is a matter of each number: how often, and when last.
func TestAsk(t *testing.T) {
	s := NewSender(3)
	s.Take(65534, 0, 8)
	s.Take(1, 5, 8)
	s.Take(3, 7, 8)
	for i, c := range []struct {
		now     int
		asked   []int
		givenUp int
		left    []numbered[gap]
	}{
		{14, nil, 0, []numbered[gap]{{65535, gap{5, 0}}, {0, gap{5, 0}}, {2, gap{7, 0}}}},
		{15, []int{65535, 0}, 0, []numbered[gap]{{65535, gap{15, 1}}, {0, gap{15, 1}}, {2, gap{7, 0}}}},
		{20, []int{2}, 0, []numbered[gap]{{65535, gap{15, 1}}, {0, gap{15, 1}}, {2, gap{20, 1}}}},
		{29, nil, 2, []numbered[gap]{{2, gap{20, 1}}}},
		{30, nil, 1, nil},
		{40, nil, 0, nil},
	} {
		asked, givenUp := s.Ask(c.now, 10, 1)
		if !slices.Equal(asked, c.asked) || givenUp != c.givenUp || !slices.Equal(s.listed, c.left) {
			t.Errorf("step %d: asked %v, given up %d, left %v, want %v, %d, %v", i, asked, givenUp, s.listed, c.asked, c.givenUp, c.left)
		}
	}
}

func TestHas(t *testing.T) {
	s := NewSender(3)
	if !s.Has(3) || s.Has(4) || s.Has(0) {
		t.Error("a sender has its source alone")
	}
}
