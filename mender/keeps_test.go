package mender

import (
	"math/rand/v2"
	"strconv"
	"testing"

	"mender/api"
)

// spent: so many bytes were sent again at a time.
type spent struct{ time, bytes int }

// checkSpent: in any time never more than Burst, and Rate times that time.
func checkSpent(t *testing.T, c api.Config, list []spent) {
	t.Helper()
	for i := range list {
		sum := 0
		for _, x := range list[i:] {
			sum += x.bytes
			if most := c.Burst + c.Rate*(x.time-list[i].time); sum > most {
				t.Fatalf("%+v: from %d to %d %d bytes, more than %d", c, list[i].time, x.time, sum, most)
			}
		}
	}
}

// witness sees what a mender with sender 3 and a want of it answers.
type witness struct {
	*Mender
	went  map[int]string // payloads, by the want's number
	come  map[int]bool   // numbers of the sender
	spent []spent
}

// packet hands one in; no payload comes twice, so that each is known by it.
func (w *witness) packet(t *testing.T, number int, payload string) {
	t.Helper()
	out, e := w.Packet(told(t, api.Packet{Number: number & 65535, Source: 3, Payload: payload}))
	if e != api.OK || len(out) > 1 {
		t.Fatalf("Packet %d = %x, %d", number, out, e)
	}
	for _, text := range out {
		x, _ := ParsePacket(text)
		if _, ok := w.went[x.Number]; ok || w.come[number&65535] {
			t.Fatalf("packet %d went to the want twice, as %d", number, x.Number)
		}
		w.went[x.Number] = x.Payload
	}
	w.come[number&65535] = true
}

func (w *witness) report(t *testing.T, numbers ...int) {
	t.Helper()
	out, _ := w.Report(1, asking(t, 7, numbers...))
	for _, text := range out {
		x, _ := ParsePacket(text)
		own := 256*int(x.Payload[0]) + int(x.Payload[1])
		if w.went[own] != x.Payload[2:] {
			t.Fatalf("%d is sent again as %q, but went as %q", own, x.Payload[2:], w.went[own])
		}
		w.spent = append(w.spent, spent{w.Look().Now, len(text)})
	}
}

func (w *witness) tick(t *testing.T, time int) {
	t.Helper()
	out, _ := w.Tick(time)
	for _, text := range out {
		list, _ := ParseReport(text)
		for _, n := range list[0].Numbers {
			if w.come[n] {
				t.Fatalf("%d has come, and is asked for", n)
			}
		}
	}
}

func TestP9WhatIsPromised(t *testing.T) {
	again, asked := 0, 0
	for seed := range uint64(120) {
		r := rand.New(rand.NewPCG(seed, 11))
		c := chanceConfig(r)
		c.Burst = one(r, 0, 20, 100, 1000)
		c.Rate = one(r, 0, 1, 7, 30)
		first := one(r, 0, 65535, 65000, r.IntN(65536))
		w := &witness{Mender: relaying(t, c, 65000, 65000), went: map[int]string{}, come: map[int]bool{}}
		ahead := 0
		for step := range 500 {
			switch r.IntN(4) {
			case 0, 1:
				ahead += one(r, 0, 1, 1, 2, 3, c.Window, c.Window+1)
				w.packet(t, first+ahead-one(r, 0, 0, 0, 1, 2, 5, c.Window), "payload"+strconv.Itoa(step))
			case 2:
				w.report(t, (65000+ahead)&65535, (65000+ahead-r.IntN(20))&65535, (65000+ahead)&65535)
			default:
				w.tick(t, one(r, 0, 1, 2, 9, c.Retry))
			}
			if ahead > 60000 {
				t.Fatalf("the numbers would go round")
			}
		}
		checkSpent(t, c, w.spent)
		again += len(w.spent)
		asked += w.Look().Asked
	}
	if again < 1000 || asked < 1000 {
		t.Errorf("too little is tried: %d again, %d asked", again, asked)
	}
}
