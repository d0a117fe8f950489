package mender

import (
	"slices"

	"mender/api"
	"mender/flow"
	"mender/wire"
)

// orNone stands in for nil, so that a call on it is refused and does not
// panic.
func (m *Mender) orNone() *Mender {
	if m == nil {
		return &Mender{}
	}
	return m
}

// made tells whether it is from New: any other has no room for a sender.
func (m *Mender) made() bool {
	return m.config.Ring > 0
}

// sender answers nil, if no sender has this source.
func (m *Mender) sender(source int) *flow.Sender {
	for _, s := range m.senders {
		if s.Has(source) {
			return s
		}
	}
	return nil
}

func (m *Mender) knows(source int) bool {
	return m.sender(source) != nil ||
		slices.ContainsFunc(m.wants, func(w *flow.Want) bool { return w.Has(source) })
}

// passOn answers what goes to each want of the packet's sender.
func (m *Mender) passOn(x api.Packet) []string {
	var out []string
	for _, w := range m.wants {
		if w.Of(x.Source) {
			text, _ := wire.WritePacket(w.Pass(x, m.config.Ring)) // no longer than it came
			out = append(out, text)
		}
	}
	return out
}
