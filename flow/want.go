package flow

import (
	"mender/api"
	"mender/wire"
)

// Want has the packets listed that are kept for it, the one that went first
// first.
type Want struct {
	stream[kept]
	id     int
	sender int // its source
	plan   api.Want
	shift  uint16 // from the sender's numbers to the want's
	second uint16 // the number of what is sent again next
}

// kept is a packet as it went to the want.
type kept struct {
	packet api.Packet
	rests  int // until this time it is not sent again
}

func NewWant(id, sender int, plan api.Want) *Want {
	return &Want{
		stream: stream[kept]{source: plan.Source},
		id:     id,
		sender: sender,
		plan:   plan,
		second: uint16(plan.SecondFirst),
	}
}

func (w *Want) ID() int { return w.id }

// Of tells whether the want is of the sender that has this source.
func (w *Want) Of(sender int) bool {
	return w.sender == sender
}

// Has tells whether one of the want's two sources is this one.
func (w *Want) Has(source int) bool {
	return w.stream.Has(source) || w.plan.Second == source
}

// Pass answers x as it goes to the want, and keeps it among so many.
func (w *Want) Pass(x api.Packet, ring int) api.Packet {
	number := uint16(x.Number)
	if !w.begun {
		w.begun = true
		w.shift = uint16(w.plan.First) - number
	}
	number += w.shift
	x.Source, x.Type, x.Number = w.source, w.plan.Type, int(number)
	w.add(number, kept{packet: x})
	if len(w.listed) > ring {
		w.removeFirst(1)
	}
	return x
}

// Again answers the bytes of what is sent again for number, and lets it rest
// for delay; false, if it is refused: it is not kept, it rests, or it would be
// longer than tokens or than any packet.
func (w *Want) Again(number uint16, now, delay, tokens int) (string, bool) {
	at := w.find(number)
	if at < 0 || now < w.listed[at].known.rests {
		return "", false
	}
	text, e := wire.WritePacket(w.repacked(w.listed[at].known.packet))
	if e != api.OK || len(text) > tokens {
		return "", false
	}
	w.listed[at].known.rests = now + delay
	w.second++
	return text, true
}

// repacked answers x as it would be sent again: under another number, so that
// its own one goes ahead of the payload.
func (w *Want) repacked(x api.Packet) api.Packet {
	x.Payload = wire.NumberBytes(x.Number) + x.Payload
	x.Source, x.Type, x.Number = w.plan.Second, w.plan.SecondType, int(w.second)
	x.Padding = 0
	return x
}
