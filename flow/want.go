package flow

import "mender/api"

// Want has the packets listed that are kept for it, as they went to it, the
// one that went first first.
type Want struct {
	stream[api.Packet]
	id     int
	sender int // its source
	plan   api.Want
	shift  uint16 // from the sender's numbers to the want's
}

func NewWant(id, sender int, plan api.Want) *Want {
	return &Want{
		stream: stream[api.Packet]{source: plan.Source},
		id:     id,
		sender: sender,
		plan:   plan,
	}
}

func (w *Want) ID() int { return w.id }

// Of tells whether the want is of the sender that has this source.
func (w *Want) Of(sender int) bool {
	return w.sender == sender
}

// Has tells whether one of the want's two sources is this one.
func (w *Want) Has(source int) bool {
	return w.stream.Has(source) || w.plan.Second == source
}

// Pass answers x as it goes to the want, and keeps it among so many.
func (w *Want) Pass(x api.Packet, ring int) api.Packet {
	number := uint16(x.Number)
	if !w.begun {
		w.begun = true
		w.shift = uint16(w.plan.First) - number
	}
	number += w.shift
	x.Source, x.Type, x.Number = w.source, w.plan.Type, int(number)
	w.add(number, x)
	if len(w.listed) > ring {
		w.removeFirst(1)
	}
	return x
}
