// Package mender: packets passed on, and what was lost sent again: see DOC.md.
package mender

import (
	"mender/api"
	"mender/wire"
)

// Mender passes packets on.
type Mender struct{}

// ParsePacket reads a packet (P3).
func ParsePacket(text string) (api.Packet, api.Errno) { return wire.ReadPacket(text) }

// TellPacket writes one (P3).
func TellPacket(x api.Packet) (string, api.Errno) { return wire.WritePacket(x) }

// ParseReport reads a report's askings (P4).
func ParseReport(text string) ([]api.Asking, api.Errno) { return wire.ReadReport(text) }

// TellAsking writes one (P4).
func TellAsking(x api.Asking) (string, api.Errno) { return wire.WriteAsking(x) }

// New makes a mender (P5).
func New(c api.Config) (*Mender, api.Errno) { return nil, api.OK }

// AddSender adds a sender (P5).
func (m *Mender) AddSender(source int) api.Errno { return api.OK }

// AddWant adds a want (P5).
func (m *Mender) AddWant(of int, w api.Want) (int, api.Errno) { return 0, api.OK }

// DropWant takes one away (P5).
func (m *Mender) DropWant(id int) api.Errno { return api.OK }

// Packet takes a packet (P6).
func (m *Mender) Packet(text string) ([]string, api.Errno) { return nil, api.OK }

// Report takes a want's report (P7).
func (m *Mender) Report(id int, text string) ([]string, api.Errno) { return nil, api.OK }

// Tick lets time go on (P8).
func (m *Mender) Tick(t int) ([]string, api.Errno) { return nil, api.OK }

// Look tells how it stands (P8).
func (m *Mender) Look() api.State { return api.State{} }

// Missing tells which numbers of a sender are missing (P8).
func (m *Mender) Missing(source int) ([]int, api.Errno) { return nil, api.OK }
