package flow

import "slices"

// Fate is what a packet that comes from a sender is.
type Fate int

const (
	Passed Fate = iota
	Late
	Doubled
)

// farthestAhead: a number that is farther ahead of the newest is behind it.
const farthestAhead = 32767

// Sender has its missing numbers listed, the one farthest behind first.
type Sender struct {
	stream[gap]
	newest uint16
}

// gap is what is to be known of a missing number.
type gap struct {
	last  int // when it was found, or asked for last
	tries int // how often it was asked for
}

func NewSender(source int) *Sender {
	return &Sender{stream: stream[gap]{source: source}}
}

// Take tells what the packet of this number is, and how many missing numbers
// are given up for it.
func (s *Sender) Take(number uint16, now, window int) (Fate, int) {
	if !s.begun {
		s.begun = true
		s.newest = number
		return Passed, 0
	}
	if ahead := number - s.newest; ahead >= 1 && ahead <= farthestAhead {
		return Passed, s.goOn(number, now, window)
	}
	return s.lookBack(number, window), 0
}

// goOn makes number the newest. Beyond the window nothing between is missing,
// and whatever was missing is even farther behind: it is given up as well.
func (s *Sender) goOn(number uint16, now, window int) int {
	if int(number-s.newest) <= window {
		for n := s.newest + 1; n != number; n++ {
			s.add(n, gap{last: now})
		}
	}
	s.newest = number
	return s.giveUp(window)
}

// giveUp tells how many numbers were window or more behind the newest.
func (s *Sender) giveUp(window int) int {
	count := 0
	for count < len(s.listed) && int(s.newest-s.listed[count].number) >= window {
		count++
	}
	s.removeFirst(count)
	return count
}

func (s *Sender) lookBack(number uint16, window int) Fate {
	switch {
	case int(s.newest-number) >= window:
		return Late
	case s.remove(number):
		return Passed
	}
	return Doubled
}

// Ask lists the missing numbers that are to be asked for now, the one farthest
// behind first, and tells how many are given up, having been asked for so many
// tries.
func (s *Sender) Ask(now, retry, tries int) ([]int, int) {
	missing := len(s.listed)
	due := func(x gap) bool { return now-x.last >= retry }
	s.listed = slices.DeleteFunc(s.listed, func(x numbered[gap]) bool {
		return due(x.known) && x.known.tries >= tries
	})
	var asked []int
	for i := range s.listed {
		if x := &s.listed[i]; due(x.known) {
			x.known = gap{last: now, tries: x.known.tries + 1}
			asked = append(asked, int(x.number))
		}
	}
	return asked, missing - len(s.listed)
}

// Missing lists the missing numbers, the one farthest behind first.
func (s *Sender) Missing() []int {
	numbers := make([]int, 0, len(s.listed))
	for _, x := range s.listed {
		numbers = append(numbers, int(x.number))
	}
	return numbers
}
