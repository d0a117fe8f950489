package mender

import (
	"math"
	"slices"
	"strings"
	"testing"

	"mender/api"
)

// plenty sends again whatever is kept.
var plenty = api.Config{Ring: 64, Window: 200, Burst: 1000000, Retry: 1}

// asking is a report of one asking for packets of source.
func asking(t testing.TB, source int, numbers ...int) string {
	t.Helper()
	text, e := TellAsking(ask(1, source, numbers...))
	if e != api.OK {
		t.Fatalf("TellAsking(%d, %v) = %d", source, numbers, e)
	}
	return text
}

// again checks what is sent again for a report: each whole.
func again(t *testing.T, m *Mender, id int, report string, want ...string) {
	t.Helper()
	if out, e := m.Report(id, report); e != api.OK || !slices.Equal(out, want) {
		t.Errorf("Report(%d, %x) = %x, %d, want %x", id, report, out, e, want)
	}
}

// resent is x as it is sent again with the source, type and number; own is the
// number under which it is kept.
func resent(t testing.TB, x api.Packet, source, kind, number, own int) string {
	t.Helper()
	x.Payload = string([]byte{byte(own / 256), byte(own % 256)}) + x.Payload
	x.Padding = 0
	return as(t, x, source, kind, number)
}

// relaying has sender 3 and a want of it: 7 and 8, with types 100 and 101.
func relaying(t testing.TB, c api.Config, first, secondFirst int) *Mender {
	t.Helper()
	m := made(t, c)
	addSenders(t, m, 3)
	addWant(t, m, 3, api.Want{Source: 7, Second: 8, Type: 100, SecondType: 101, First: first, SecondFirst: secondFirst})
	return m
}

// pass has packets come from sender 3, of these payloads, number by number.
func pass(t testing.TB, m *Mender, number int, payloads ...string) {
	t.Helper()
	for i, p := range payloads {
		m.Packet(told(t, api.Packet{Number: (number + i) & 65535, Source: 3, Payload: p}))
	}
}

// counts checks how it stands, but for the time and what has come.
func counts(t *testing.T, m *Mender, tokens, sent, refused, wrong int) {
	t.Helper()
	if x := m.Look(); x.Tokens != tokens || x.Again != sent || x.Refused != refused || x.Wrong != wrong {
		t.Errorf("Look() = %+v, want %d tokens, %d again, %d refused, %d wrong", x, tokens, sent, refused, wrong)
	}
}

func TestP7Example3(t *testing.T) {
	m := relaying(t, api.Config{Ring: 4, Window: 8, Burst: 100, Retry: 1}, 1000, 2000)
	pass(t, m, 1, "one")
	pass(t, m, 4, "four")
	pass(t, m, 2, "two")
	pass(t, m, 2, "two")
	again(t, m, 1, asking(t, 7, 1001, 1002), unhex(t, "80 65 07d0 00000000 00000008 03e9")+"two")
	counts(t, m, 100-17, 1, 1, 0)
}

// All but source, type, number and padding is as it went, at any length.
func TestP7WholePackets(t *testing.T) {
	for _, c := range append(longCases(), packetCases...) {
		m := made(t, plenty)
		addSenders(t, m, c.x.Source)
		addWant(t, m, c.x.Source, api.Want{Source: 7, Second: 8, Type: 1, SecondType: 0, First: 65535, SecondFirst: 5})
		addWant(t, m, c.x.Source, api.Want{Source: 9, Second: 10, Type: 2, SecondType: 127, First: 258, SecondFirst: 65535})
		text := told(t, c.x)
		m.Packet(text)
		if len(text) == 1500 {
			again(t, m, 1, asking(t, 7, 65535))
			again(t, m, 2, asking(t, 9, 258))
			counts(t, m, 1000000, 0, 2, 0)
			continue
		}
		again(t, m, 1, asking(t, 7, 65535), resent(t, c.x, 8, 0, 5, 65535))
		again(t, m, 2, asking(t, 9, 258), resent(t, c.x, 10, 127, 65535, 258))
		counts(t, m, 1000000-2*(len(text)-c.x.Padding+2), 2, 0, 0)
	}
}

// What would be longer than 1500 bytes is refused, and takes nothing.
func TestP7LongestPackets(t *testing.T) {
	extended := func(payload, padding int) api.Packet {
		return api.Packet{Extended: true, Extension: strings.Repeat("e", 100), Contributors: []int{1, 2}, Payload: strings.Repeat("p", payload), Padding: padding}
	}
	simple := func(payload, padding int) api.Packet {
		return api.Packet{Payload: strings.Repeat("p", payload), Padding: padding}
	}
	for name, c := range map[string]struct {
		x    api.Packet
		sent bool
	}{
		"1500 bytes": {simple(1486, 0), true}, "1501": {simple(1487, 0), false}, "1502": {simple(1488, 0), false},
		"1500 without padding": {simple(1486, 2), true}, "1501 without padding": {simple(1487, 1), false},
		"far less without padding": {simple(1233, 255), true},
		"1500 with an extension":   {extended(1500-2-12-8-104, 0), true}, "1501 with an extension": {extended(1501-2-12-8-104, 0), false},
	} {
		m := relaying(t, plenty, 10, 20)
		x := c.x
		x.Source, x.Number = 3, 1
		m.Packet(told(t, x))
		pass(t, m, 2, "next")
		next := api.Packet{Payload: "next"}
		if c.sent {
			again(t, m, 1, asking(t, 7, 10, 11), resent(t, c.x, 8, 101, 20, 10), resent(t, next, 8, 101, 21, 11))
			counts(t, m, 1000000-18-(len(told(t, x))-x.Padding+2), 2, 0, 0)
		} else {
			again(t, m, 1, asking(t, 7, 10, 11), resent(t, next, 8, 101, 20, 11))
			counts(t, m, 1000000-18, 1, 1, 0)
		}
		if t.Failed() {
			t.Fatal(name)
		}
	}
}

// The second numbers go round, one for each that is sent, want by want.
func TestP7SecondNumbers(t *testing.T) {
	m := relaying(t, plenty, 65534, 65534)
	addWant(t, m, 3, api.Want{Source: 9, Second: 10, SecondFirst: 0})
	pass(t, m, 50, "a", "b", "c", "d")
	one := func(number, own int, payload string) string {
		return resent(t, api.Packet{Payload: payload}, 8, 101, number, own)
	}
	again(t, m, 1, asking(t, 7, 65534, 65535), one(65534, 65534, "a"), one(65535, 65535, "b"))
	again(t, m, 2, asking(t, 9, 3), resent(t, api.Packet{Payload: "d"}, 10, 0, 0, 3))
	again(t, m, 1, asking(t, 7, 2, 65533))
	again(t, m, 1, asking(t, 7, 0, 2, 1), one(0, 0, "c"), one(1, 1, "d"))
	again(t, m, 1, asking(t, 7, 65534), one(2, 65534, "a"))
	again(t, m, 2, asking(t, 9, 0), resent(t, api.Packet{Payload: "a"}, 10, 0, 1, 0))
	if x := m.Look(); x.Again != 7 || x.Refused != 3 {
		t.Errorf("Look() = %+v", x)
	}
}

// All askings of the want, in their order, each number as often as it is told.
func TestP7OrderOfNumbers(t *testing.T) {
	m := relaying(t, plenty, 100, 0)
	pass(t, m, 1, "a", "b", "c", "d", "e")
	payloads := func(report string) string {
		t.Helper()
		out, e := m.Report(1, report)
		if e != api.OK {
			t.Fatalf("Report(1, %x) = %d", report, e)
		}
		told := ""
		for _, text := range out {
			told += text[14:]
		}
		return told
	}
	for _, c := range []struct{ report, want string }{
		{asking(t, 7, 100, 101, 102), "abc"},
		{asking(t, 7, 104, 102, 103), "ecd"},
		{asking(t, 7, 103) + asking(t, 7, 100, 104) + asking(t, 7, 103, 103), "daedd"},
		{asking(t, 7, 101) + "\x80\xc9\x00\x01abcd" + asking(t, 9, 102) + asking(t, 7, 100), "ba"},
		{unhex(t, "81cd 0003 00000000 00000007 0064 0015"), "abd"},
		{unhex(t, "81cd 0003 ffffffff 00000007 0063 ffff"), "abcde"},
		{"\x80\xc9\x00\x00", ""},
		{unhex(t, "82cd 0003 00000000 00000007 0064 0000"), ""},
	} {
		if got := payloads(c.report); got != c.want {
			t.Errorf("Report(1, %x): %s, want %s", c.report, got, c.want)
		}
	}
	if x := m.Look(); x.Again != 21 || x.Refused != 13 {
		t.Errorf("Look() = %+v", x)
	}
}

func TestP7AskingsOfOthers(t *testing.T) {
	m := relaying(t, plenty, 100, 0)
	addWant(t, m, 3, api.Want{Source: 9, Second: 10, First: 100})
	pass(t, m, 100, "a", "b")
	for _, source := range []int{3, 8, 9, 10, 0, 4294967295} {
		again(t, m, 1, asking(t, source, 100, 101, 102))
	}
	for _, source := range []int{3, 7, 8, 10} {
		again(t, m, 2, asking(t, source, 100, 101, 102))
	}
	counts(t, m, 1000000, 0, 0, 0)
}

func TestP7NoWantAndNoReport(t *testing.T) {
	m := relaying(t, plenty, 100, 0)
	addWant(t, m, 3, pair(9, 10))
	pass(t, m, 1, "a")
	m.DropWant(2)
	refused := func(id int, text string, e api.Errno, wrong int) {
		t.Helper()
		if out, got := m.Report(id, text); len(out) != 0 || got != e {
			t.Errorf("Report(%d, %x) = %x, %d, want %d", id, text, out, got, e)
		}
		counts(t, m, 1000000, 0, 0, wrong)
	}
	whole := asking(t, 7, 100)
	for _, id := range []int{0, -1, 2, 3, 7, math.MinInt, math.MaxInt} {
		refused(id, whole, api.ErrNone, 0)
		refused(id, "", api.ErrNone, 0)
	}
	for i, text := range []string{
		"", "\x81", whole[:15], whole + "x", whole + "\xa0\xc9\x00\x00", whole + "\x80\xc9\x00\x01",
		"\x81\xcd\x00\x02" + whole[4:12], "\x01" + whole[1:], whole + strings.Repeat("\x80\xc9\x00\x00", 372), told(t, api.Packet{}),
	} {
		refused(1, text, api.ErrForm, i+1)
	}
	again(t, m, 1, whole, resent(t, api.Packet{Payload: "a"}, 8, 101, 0, 100))
}

// What is behind the Ring last ones is refused.
func TestP7Ring(t *testing.T) {
	for _, ring := range []int{1, 2, 63, 64} {
		c := plenty
		c.Ring = ring
		m := relaying(t, c, 65500, 0)
		count := 0
		for n := range 200 {
			pass(t, m, 40000+n, "p")
			for own, kept := range map[int]bool{65500 + n - ring: false, 65500 + n - ring + 1: n+1 >= ring, 65500 + n: true, 65500 + n + 1: false} {
				own &= 65535
				out, e := m.Report(1, asking(t, 7, own))
				want := []string{resent(t, api.Packet{Payload: "p"}, 8, 101, count, own)}
				if !kept {
					want = nil
				}
				if e != api.OK || !slices.Equal(out, want) {
					t.Fatalf("ring %d, packet %d: asked for %d: %x, %d, want %x", ring, n, own, out, e, want)
				}
				count += len(out)
			}
		}
	}
}

// What went first is not kept, not what has the lowest number; and what comes
// in the place of another under its number is kept as long as any.
func TestP7RingInTheOrderOfGoing(t *testing.T) {
	c := plenty
	c.Ring = 3
	m := relaying(t, c, 100, 0)
	sent := func(number int, payload string) {
		t.Helper()
		out, e := m.Report(1, asking(t, 7, number&65535))
		got := "-"
		if len(out) == 1 {
			got = out[0][14:]
		}
		if e != api.OK || len(out) > 1 || got != payload {
			t.Errorf("asked for %d: %x, %d, want %s", number, out, e, payload)
		}
	}
	pass(t, m, 1, "a")
	pass(t, m, 4, "d", "e")
	pass(t, m, 2, "b") // a is kept no more
	sent(100, "-")
	sent(103, "d")
	pass(t, m, 3, "c") // nor is d
	sent(103, "-")
	sent(101, "b")
	sent(102, "c")
	sent(104, "e")
	pass(t, m, 30000, "x")
	pass(t, m, 60000, "y") // c, x, y are kept
	pass(t, m, 3, "C")     // in the place of c
	sent(102, "C")
	pass(t, m, 4, "D") // x is kept no more, C is
	sent(102, "C")
	sent(99+30000, "-")
	sent(99+60000, "y")
}

func TestP7Delay(t *testing.T) {
	for _, delay := range []int{0, 1, 2, 10, 999999, 1000000} {
		c := plenty
		c.Delay = delay
		m := relaying(t, c, 5, 0)
		m.Tick(7)
		pass(t, m, 1, "a", "b")
		one := func(count int, want ...string) {
			t.Helper()
			report := asking(t, 7, slices.Repeat([]int{5}, count)...)
			again(t, m, 1, report, want...)
		}
		x := api.Packet{Payload: "a"}
		if delay == 0 {
			one(3, resent(t, x, 8, 101, 0, 5), resent(t, x, 8, 101, 1, 5), resent(t, x, 8, 101, 2, 5))
			continue
		}
		one(3, resent(t, x, 8, 101, 0, 5))
		m.Tick(delay - 1)
		one(1)
		m.Tick(1)
		one(2, resent(t, x, 8, 101, 1, 5))
		m.Tick(delay - 1)
		one(1)
		again(t, m, 1, asking(t, 7, 6), resent(t, api.Packet{Payload: "b"}, 8, 101, 2, 6))
		m.Tick(1)
		one(1, resent(t, x, 8, 101, 3, 5))
		counts(t, m, 1000000-4*15, 4, 5, 0)
	}
}

// The delay is of the packet that is kept for the want, not of its number, nor
// of the sender's packet; and what was refused is not late by it.
func TestP7DelayOfWhat(t *testing.T) {
	c := plenty
	c.Delay, c.Burst, c.Rate = 10, 15, 15
	m := relaying(t, c, 100, 0)
	addWant(t, m, 3, api.Want{Source: 9, Second: 10, First: 100})
	pass(t, m, 1, "a")
	again(t, m, 1, asking(t, 7, 100), resent(t, api.Packet{Payload: "a"}, 8, 101, 0, 100))
	again(t, m, 2, asking(t, 9, 100)) // no tokens
	m.Tick(1)
	again(t, m, 1, asking(t, 7, 100))
	again(t, m, 2, asking(t, 9, 100), resent(t, api.Packet{Payload: "a"}, 10, 0, 0, 100))
	pass(t, m, 30000, "x")
	pass(t, m, 60000, "y")
	pass(t, m, 1, "A")
	m.Tick(1)
	again(t, m, 1, asking(t, 7, 100), resent(t, api.Packet{Payload: "A"}, 8, 101, 1, 100))
	m.Tick(9)
	again(t, m, 1, asking(t, 7, 100))
	m.Tick(1)
	again(t, m, 1, asking(t, 7, 100), resent(t, api.Packet{Payload: "A"}, 8, 101, 2, 100))
}

func TestP7Tokens(t *testing.T) {
	c := plenty
	c.Burst, c.Rate = 40, 3
	m := relaying(t, c, 100, 0)
	addWant(t, m, 3, api.Want{Source: 9, Second: 10})
	pass(t, m, 1, "sixsix", "", "sixsix") // sent again: 20, 14 and 20 bytes
	six, none := api.Packet{Payload: "sixsix"}, api.Packet{}
	counts(t, m, 40, 0, 0, 0)
	again(t, m, 1, asking(t, 7, 100), resent(t, six, 8, 101, 0, 100))
	counts(t, m, 20, 1, 0, 0)
	again(t, m, 2, asking(t, 9, 0), resent(t, six, 10, 0, 0, 0)) // as long as the tokens that are left
	counts(t, m, 0, 2, 0, 0)
	again(t, m, 1, asking(t, 7, 100, 101, 102))
	counts(t, m, 0, 2, 3, 0)
	m.Tick(6)
	counts(t, m, 18, 2, 3, 0)
	again(t, m, 1, asking(t, 7, 100, 101, 102), resent(t, none, 8, 101, 1, 101)) // what is shorter has room
	counts(t, m, 4, 3, 5, 0)
	m.Tick(3)
	again(t, m, 1, asking(t, 7, 101))
	counts(t, m, 13, 3, 6, 0)
	m.Tick(0)
	counts(t, m, 13, 3, 6, 0)
	m.Tick(8)
	counts(t, m, 37, 3, 6, 0)
	m.Tick(1)
	counts(t, m, 40, 3, 6, 0)
	m.Tick(1)
	counts(t, m, 40, 3, 6, 0)
	m.Tick(1000000)
	counts(t, m, 40, 3, 6, 0)
}

// Without a burst nothing is sent again, whatever the rate.
func TestP7NoTokens(t *testing.T) {
	for _, c := range []struct{ rate, burst, ticks, tokens int }{
		{0, 0, 1000000, 0}, {100000, 0, 1000000, 0}, {100000, 13, 1000000, 13}, {0, 13, 1000000, 13},
	} {
		config := plenty
		config.Rate, config.Burst = c.rate, c.burst
		m := relaying(t, config, 0, 0)
		pass(t, m, 1, "") // sent again: 14 bytes
		again(t, m, 1, asking(t, 7, 0))
		m.Tick(c.ticks)
		again(t, m, 1, asking(t, 7, 0))
		counts(t, m, c.tokens, 0, 2, 0)
	}
}

// A report may ask for more numbers than an asking that is told has.
func TestP7MostNumbers(t *testing.T) {
	m := relaying(t, plenty, 0, 0)
	for n := range 64 {
		pass(t, m, n, "p")
	}
	report := "\x81\xcd\x01\x76" + noughts(4) + "\x00\x00\x00\x07"
	for range 372 {
		report += "\x00\x28\xff\xff" // 40 to 56
	}
	if out, e := m.Report(1, report); e != api.OK || len(out) != 372*17 {
		t.Errorf("Report of %d bytes: %d packets, %d", len(report), len(out), e)
	}
	counts(t, m, 1000000-372*17*15, 372*17, 0, 0)
}
