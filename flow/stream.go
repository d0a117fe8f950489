// Package flow: senders and wants, and what is known of their packets by
// number.
package flow

import "slices"

// stream is what senders and wants have in common: a source, and numbers that
// are told apart. Each number is listed at most once, with what is to be known
// of it, in the order in which it was added.
type stream[T any] struct {
	source int
	begun  bool // whether a packet has come, from which the others are counted
	listed []numbered[T]
}

type numbered[T any] struct {
	number uint16 // its arithmetic goes round as the numbers of packets do
	known  T
}

// Source is the stream's own one.
func (s *stream[T]) Source() int { return s.source }

// Has tells whether source is the stream's own.
func (s *stream[T]) Has(source int) bool {
	return s.source == source
}

// find answers where number is listed, below 0 if it is not.
func (s *stream[T]) find(number uint16) int {
	return slices.IndexFunc(s.listed, func(x numbered[T]) bool { return x.number == number })
}

func (s *stream[T]) add(number uint16, known T) {
	s.remove(number)
	s.listed = append(s.listed, numbered[T]{number, known})
}

// remove tells whether number was listed.
func (s *stream[T]) remove(number uint16) bool {
	at := s.find(number)
	if at < 0 {
		return false
	}
	s.listed = slices.Delete(s.listed, at, at+1)
	return true
}

// removeFirst takes the count numbers away that were added first.
func (s *stream[T]) removeFirst(count int) {
	s.listed = slices.Delete(s.listed, 0, count)
}
