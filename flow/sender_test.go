package flow

import (
	"slices"
	"testing"
)

// A missing number is known with the time at which it was found.
func TestFoundAtThisTime(t *testing.T) {
	s := NewSender(3)
	s.Take(65534, 5, 8)
	s.Take(1, 6, 8)
	s.Take(65535, 7, 8)
	s.Take(3, 1000000, 8)
	want := []numbered[gap]{{0, gap{6}}, {2, gap{1000000}}}
	if !slices.Equal(s.listed, want) {
		t.Errorf("missing: %v, want %v", s.listed, want)
	}
}

func TestHas(t *testing.T) {
	s := NewSender(3)
	if !s.Has(3) || s.Has(4) || s.Has(0) {
		t.Error("a sender has its source alone")
	}
}
