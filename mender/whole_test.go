package mender

import (
	"math/rand/v2"
	"slices"
	"strings"
	"testing"

	"mender/api"
)

// whole is a mender as the document tells it.
type whole struct {
	config  api.Config
	state   api.State
	sources []int
	senders map[int]*model
	wants   []*wanted
}

// wanted is a want of whole; all that went to it are in list.
type wanted struct {
	of    int
	plan  api.Want
	began int
	list  []gone
	sent  int
}

// gone is a packet as it went to a want. One that is kept no more stays in the
// list.
type gone struct {
	x        api.Packet
	lost     bool
	sent     bool
	lastSent int
}

func newWhole(c api.Config, sources []int, wants []*wanted) *whole {
	w := &whole{config: c, state: api.State{Tokens: c.Burst}, sources: sources, senders: map[int]*model{}, wants: wants}
	for _, source := range sources {
		w.senders[source] = &model{window: c.Window, state: &w.state}
	}
	return w
}

func (w *whole) packet(t testing.TB, x api.Packet) []string {
	if !w.senders[x.Source].comes(x.Number) {
		return nil
	}
	var out []string
	for _, want := range w.wants {
		if want.of == x.Source {
			out = append(out, told(t, want.goes(x, w.config.Ring)))
		}
	}
	return out
}

func (d *wanted) goes(x api.Packet, ring int) api.Packet {
	if len(d.list) == 0 {
		d.began = x.Number
	}
	x.Source, x.Type, x.Number = d.plan.Source, d.plan.Type, (d.plan.First+behind(d.began, x.Number))%65536
	kept := 1
	for i := len(d.list) - 1; i >= 0; i-- {
		old := &d.list[i]
		old.lost = old.lost || old.x.Number == x.Number || kept == ring
		if !old.lost {
			kept++
		}
	}
	d.list = append(d.list, gone{x: x})
	return x
}

func (w *whole) report(t testing.TB, id int, askings []api.Asking) []string {
	var out []string
	want := w.wants[id-1]
	for _, a := range askings {
		if a.Source != want.plan.Source {
			continue
		}
		for _, number := range a.Numbers {
			if text := w.again(t, want, number); text != "" {
				w.state.Again++
				w.state.Tokens -= len(text)
				out = append(out, text)
			} else {
				w.state.Refused++
			}
		}
	}
	return out
}

func (w *whole) again(t testing.TB, d *wanted, number int) string {
	at := slices.IndexFunc(d.list, func(x gone) bool { return !x.lost && x.x.Number == number })
	if at < 0 {
		return ""
	}
	old := &d.list[at]
	if old.sent && w.state.Now-old.lastSent < w.config.Delay || len(told(t, old.x))-old.x.Padding+2 > min(w.state.Tokens, 1500) {
		return ""
	}
	old.sent, old.lastSent = true, w.state.Now
	d.sent++
	return resent(t, old.x, d.plan.Second, d.plan.SecondType, (d.plan.SecondFirst+d.sent-1)%65536, number)
}

func (w *whole) tick(t testing.TB, time int) []string {
	w.state.Now += time
	w.state.Tokens = min(w.state.Tokens+w.config.Rate*time, w.config.Burst)
	var out []string
	for _, source := range w.sources {
		d := w.senders[source]
		var numbers []int
		for _, n := range d.list() {
			x := d.missing[n]
			if w.state.Now-x.last < w.config.Retry {
				continue
			}
			if x.tries == w.config.Tries {
				delete(d.missing, n)
				w.state.GivenUp++
				continue
			}
			d.missing[n] = asked{last: w.state.Now, tries: x.tries + 1}
			w.state.Asked++
			numbers = append(numbers, n)
		}
		if numbers != nil {
			out = append(out, asksFor(t, source, numbers...))
		}
	}
	return out
}

func one[T any](r *rand.Rand, list ...T) T { return list[r.IntN(len(list))] }

func chanceConfig(r *rand.Rand) api.Config {
	return api.Config{
		Ring:   one(r, 1, 2, 5, 20, 64),
		Window: one(r, 1, 2, 8, 30, 200),
		Delay:  one(r, 0, 1, 3, 10, 1000000),
		Rate:   one(r, 0, 1, 15, 500, 100000),
		Burst:  one(r, 0, 13, 14, 100, 3000, 1000000),
		Retry:  one(r, 1, 2, 5, 30, 1000000),
		Tries:  one(r, 0, 1, 2, 10),
	}
}

// chancePacket is one around the newest, sometimes as long as may be.
func chancePacket(r *rand.Rand, source, newest, window int) api.Packet {
	x := api.Packet{Marker: r.IntN(2) == 0, Type: r.IntN(128), Number: next(r, newest, window), Time: r.IntN(1 << 32), Source: source}
	x.Payload = strings.Repeat(string(rune('a'+r.IntN(26))), one(r, 0, 1, 2, 9, 40))
	switch r.IntN(8) {
	case 0:
		x.Payload = strings.Repeat("p", 1484+r.IntN(5))
	case 1:
		x.Contributors = []int{1, 2, 3}[:1+r.IntN(3)]
	case 2:
		x.Extended, x.Profile, x.Extension = true, r.IntN(65536), one(r, "", "abcd", "abcdefgh")
	case 3:
		x.Padding = 1 + r.IntN(255)
	}
	return x
}

// chanceReport is of several askings, mostly of the want, for what is kept,
// was kept or never went.
func chanceReport(r *rand.Rand, t testing.TB, d *wanted) string {
	report := ""
	for range 1 + r.IntN(3) {
		var numbers []int
		for range 1 + r.IntN(6) {
			n := d.plan.First + r.IntN(80) - 20
			if len(d.list) > 0 {
				n = d.list[len(d.list)-1-r.IntN(min(len(d.list), 30))].x.Number + one(r, 0, 0, 0, 1, -1)
			}
			numbers = append(numbers, n&65535)
		}
		report += asking(t, one(r, d.plan.Source, d.plan.Source, d.plan.Source, d.plan.Second, d.of), numbers...)
	}
	return report
}

func TestP9AsTheRulesSay(t *testing.T) {
	var all api.State
	for seed := range uint64(150) {
		r := rand.New(rand.NewPCG(seed, 9))
		c := chanceConfig(r)
		plans := []*wanted{
			{of: 3, plan: api.Want{Source: 7, Second: 8, Type: 100, SecondType: 101, First: r.IntN(65536), SecondFirst: 65530}},
			{of: 4, plan: api.Want{Source: 9, Second: 10, Type: 0, SecondType: 127, First: 65530, SecondFirst: r.IntN(65536)}},
			{of: 3, plan: api.Want{Source: 0, Second: 4294967295, First: 0, SecondFirst: 0}},
		}
		m, w := made(t, c), newWhole(c, []int{4, 3}, plans)
		addSenders(t, m, 4, 3)
		for _, want := range plans {
			addWant(t, m, want.of, want.plan)
		}
		for step := range 400 {
			var out, want []string
			var e api.Errno
			switch r.IntN(8) {
			case 0, 1, 2, 3:
				source := 3 + r.IntN(2)
				x := chancePacket(r, source, w.senders[source].newest, c.Window)
				out, e = m.Packet(told(t, x))
				want = w.packet(t, x)
			case 4, 5:
				id := 1 + r.IntN(3)
				report := chanceReport(r, t, plans[id-1])
				askings, _ := ParseReport(report)
				out, e = m.Report(id, report)
				want = w.report(t, id, askings)
			default:
				time := one(r, 0, 1, 1, 2, 5, 30, c.Retry, c.Delay)
				out, e = m.Tick(time)
				want = w.tick(t, time)
			}
			if e != api.OK || !slices.Equal(out, want) || m.Look() != w.state {
				t.Fatalf("seed %d, step %d: %x, %d, %+v; want %x, %+v", seed, step, out, e, m.Look(), want, w.state)
			}
			spoil(out, "spoiled")
			for source, d := range w.senders {
				missing(t, m, source, d.list()...)
			}
			if t.Failed() {
				t.Fatalf("seed %d, step %d", seed, step)
			}
		}
		all.Again += w.state.Again
		all.Refused += w.state.Refused
		all.Asked += w.state.Asked
	}
	if all.Again < 1000 || all.Refused < 1000 || all.Asked < 1000 {
		t.Errorf("too little is tried: %+v", all)
	}
}

// lower takes so much from the numbers of a report, round, so that those of
// senders that began elsewhere can be held against each other.
func lower(t testing.TB, reports []string, by int) []string {
	var out []string
	for _, text := range reports {
		list, e := ParseReport(text)
		if e != api.OK || len(list) != 1 {
			t.Fatalf("ParseReport(%x) = %v, %d", text, list, e)
		}
		for i, n := range list[0].Numbers {
			list[0].Numbers[i] = (n - by) & 65535
		}
		told, _ := TellAsking(list[0])
		out = append(out, told)
	}
	return out
}

// Senders that begin with one number and another: all is the same.
func TestP9WhateverNumberComesFirst(t *testing.T) {
	for seed := range uint64(40) {
		r := rand.New(rand.NewPCG(seed, 10))
		c := chanceConfig(r)
		firsts := []int{0, 1, 32767, 32768, 65400, 65530, 65534, 65535, r.IntN(65536)}
		var menders []*Mender
		for range firsts {
			menders = append(menders, relaying(t, c, 65530, 65530))
		}
		newest := 0
		for step := range 300 {
			do := func(m *Mender, first int) []string { return nil }
			switch r.IntN(4) {
			case 0, 1:
				x := chancePacket(r, 3, newest, c.Window)
				newest = x.Number
				do = func(m *Mender, first int) []string {
					x := x
					x.Number = (x.Number + first) & 65535
					out, _ := m.Packet(told(t, x))
					return out
				}
			case 2:
				report := asking(t, 7, (65530+newest-r.IntN(9))&65535, (65530+newest)&65535)
				do = func(m *Mender, first int) []string {
					out, _ := m.Report(1, report)
					return out
				}
			default:
				time := one(r, 0, 1, 2, c.Retry)
				do = func(m *Mender, first int) []string {
					out, _ := m.Tick(time)
					return lower(t, out, first)
				}
			}
			want := do(menders[0], firsts[0])
			for i, m := range menders[1:] {
				if got := do(m, firsts[i+1]); !slices.Equal(got, want) || m.Look() != menders[0].Look() {
					t.Fatalf("seed %d, step %d, begun with %d: %x, %+v, want %x, %+v", seed, step, firsts[i+1], got, m.Look(), want, menders[0].Look())
				}
			}
		}
	}
}
