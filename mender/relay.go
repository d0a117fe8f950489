package mender

import (
	"slices"

	"mender/api"
	"mender/flow"
	"mender/wire"
)

// orNone stands in for nil, so that a call on it is refused and does not
// panic.
func (m *Mender) orNone() *Mender {
	if m == nil {
		return &Mender{}
	}
	return m
}

// made tells whether it is from New: any other has no room for a sender.
func (m *Mender) made() bool {
	return m.config.Ring > 0
}

// sender answers nil, if no sender has this source.
func (m *Mender) sender(source int) *flow.Sender {
	for _, s := range m.senders {
		if s.Has(source) {
			return s
		}
	}
	return nil
}

// findWant answers where the want of this id is, below 0 if there is none.
func (m *Mender) findWant(id int) int {
	return slices.IndexFunc(m.wants, func(w *flow.Want) bool { return w.ID() == id })
}

func (m *Mender) knows(source int) bool {
	return m.sender(source) != nil ||
		slices.ContainsFunc(m.wants, func(w *flow.Want) bool { return w.Has(source) })
}

// passOn answers what goes to each want of the packet's sender.
func (m *Mender) passOn(x api.Packet) []string {
	var out []string
	for _, w := range m.wants {
		if w.Of(x.Source) {
			text, _ := wire.WritePacket(w.Pass(x, m.config.Ring)) // no longer than it came
			out = append(out, text)
		}
	}
	return out
}

// sendAgain answers what is sent again for the askings that are of w. Those of
// its second source are not: what is sent again is not kept.
func (m *Mender) sendAgain(w *flow.Want, askings []api.Asking) []string {
	var out []string
	for _, x := range askings {
		if x.Source != w.Source() {
			continue
		}
		for _, number := range x.Numbers {
			text, sent := w.Again(uint16(number), m.state.Now, m.config.Delay, m.state.Tokens)
			if !sent {
				m.state.Refused++
				continue
			}
			m.state.Again++
			m.state.Tokens -= len(text)
			out = append(out, text)
		}
	}
	return out
}

// askForMissing answers a report for each sender of which something is asked
// for.
func (m *Mender) askForMissing() []string {
	var out []string
	for _, s := range m.senders {
		asked, givenUp := s.Ask(m.state.Now, m.config.Retry, m.config.Tries)
		m.state.Asked += len(asked)
		m.state.GivenUp += givenUp
		if len(asked) > 0 {
			text, _ := wire.WriteAsking(api.Asking{Source: s.Source(), Numbers: asked}) // fewer than the window, so not too many
			out = append(out, text)
		}
	}
	return out
}
