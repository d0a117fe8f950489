// Package mender: packets passed on, and what was lost sent again: see DOC.md.
package mender

import (
	"slices"

	"mender/api"
	"mender/flow"
	"mender/wire"
)

// Mender passes packets on, sends them again, and asks for them.
type Mender struct {
	config  api.Config
	state   api.State
	senders []*flow.Sender // in the order in which they came
	wants   []*flow.Want   // in the order of their ids
	lastID  int            // of a dropped want too: no id is given twice
}

// ParsePacket reads a packet (P3).
func ParsePacket(text string) (api.Packet, api.Errno) { return wire.ReadPacket(text) }

// TellPacket writes one (P3).
func TellPacket(x api.Packet) (string, api.Errno) { return wire.WritePacket(x) }

// ParseReport reads a report's askings (P4).
func ParseReport(text string) ([]api.Asking, api.Errno) { return wire.ReadReport(text) }

// TellAsking writes one (P4).
func TellAsking(x api.Asking) (string, api.Errno) { return wire.WriteAsking(x) }

// New makes a mender (P5).
func New(c api.Config) (*Mender, api.Errno) {
	if !configFits(c) {
		return nil, api.ErrNumber
	}
	return &Mender{config: c, state: api.State{Tokens: c.Burst}}, api.OK
}

// AddSender adds a sender (P5).
func (m *Mender) AddSender(source int) api.Errno {
	m = m.orNone()
	switch {
	case !between(source, 0, api.MaxSource):
		return api.ErrNumber
	case m.knows(source):
		return api.ErrKnown
	case len(m.senders) >= api.MaxSenders || !m.made():
		return api.ErrFull
	}
	m.senders = append(m.senders, flow.NewSender(source))
	return api.OK
}

// AddWant adds a want (P5).
func (m *Mender) AddWant(of int, w api.Want) (int, api.Errno) {
	m = m.orNone()
	switch {
	case m.sender(of) == nil:
		return 0, api.ErrNone
	case !wantFits(w):
		return 0, api.ErrNumber
	case m.knows(w.Source) || m.knows(w.Second):
		return 0, api.ErrKnown
	case len(m.wants) >= api.MaxWants:
		return 0, api.ErrFull
	}
	m.lastID++
	m.wants = append(m.wants, flow.NewWant(m.lastID, of, w))
	return m.lastID, api.OK
}

// DropWant takes one away (P5).
func (m *Mender) DropWant(id int) api.Errno {
	m = m.orNone()
	at := m.findWant(id)
	if at < 0 {
		return api.ErrNone
	}
	m.wants = slices.Delete(m.wants, at, at+1)
	return api.OK
}

// Packet takes a packet (P6).
func (m *Mender) Packet(text string) ([]string, api.Errno) {
	m = m.orNone()
	x, e := wire.ReadPacket(text)
	if e != api.OK {
		m.state.Wrong++
		return nil, e
	}
	s := m.sender(x.Source)
	if s == nil {
		m.state.Unknown++
		return nil, api.ErrNone
	}
	fate, givenUp := s.Take(uint16(x.Number), m.state.Now, m.config.Window)
	m.state.GivenUp += givenUp
	switch fate {
	case flow.Late:
		m.state.Late++
		return nil, api.OK
	case flow.Doubled:
		m.state.Doubled++
		return nil, api.OK
	}
	m.state.Passed++
	return m.passOn(x), api.OK
}

// Report takes a want's report (P7).
func (m *Mender) Report(id int, text string) ([]string, api.Errno) {
	m = m.orNone()
	at := m.findWant(id)
	if at < 0 {
		return nil, api.ErrNone
	}
	askings, e := wire.ReadReport(text)
	if e != api.OK {
		m.state.Wrong++
		return nil, e
	}
	return m.sendAgain(m.wants[at], askings), api.OK
}

// Tick lets time go on (P8).
func (m *Mender) Tick(t int) ([]string, api.Errno) {
	m = m.orNone()
	if !between(t, 0, api.MaxTime) {
		return nil, api.ErrNumber
	}
	m.state.Now += t
	m.state.Tokens = min(m.state.Tokens+m.config.Rate*t, m.config.Burst)
	return m.askForMissing(), api.OK
}

// Look tells how it stands (P8).
func (m *Mender) Look() api.State { return m.orNone().state }

// Missing tells which numbers of a sender are missing (P8).
func (m *Mender) Missing(source int) ([]int, api.Errno) {
	s := m.orNone().sender(source)
	if s == nil {
		return nil, api.ErrNone
	}
	return s.Missing(), api.OK
}
