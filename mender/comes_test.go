package mender

import (
	"slices"
	"testing"

	"mender/api"
)

// told is a packet's bytes.
func told(t testing.TB, x api.Packet) string {
	t.Helper()
	text, e := TellPacket(x)
	if e != api.OK {
		t.Fatalf("TellPacket(%+v) = %d", x, e)
	}
	return text
}

// numbered is a plain packet; its number is taken round.
func numbered(t testing.TB, source, number int) string {
	t.Helper()
	return told(t, api.Packet{Type: 96, Number: number & 65535, Source: source, Payload: "x"})
}

// coming: a packet comes, is passed on (p), late (l) or doubled (d), so many
// are given up for it, and these are missing behind it.
type coming struct {
	number  int
	fate    byte
	givenUp int
	missing []int
}

// checkComings has the packets come from sender 3, with all numbers so much
// higher, round.
func checkComings(t *testing.T, c api.Config, higher int, list []coming) {
	t.Helper()
	m := made(t, c)
	addSenders(t, m, 3)
	want := m.Look()
	for i, x := range list {
		switch x.fate {
		case 'p':
			want.Passed++
		case 'l':
			want.Late++
		case 'd':
			want.Doubled++
		}
		want.GivenUp += x.givenUp
		if out, e := m.Packet(numbered(t, 3, x.number+higher)); len(out) != 0 || e != api.OK {
			t.Fatalf("higher by %d, step %d, number %d: Packet = %q, %d", higher, i, x.number, out, e)
		}
		if got := m.Look(); got != want {
			t.Fatalf("higher by %d, step %d, number %d: Look() = %+v, want %+v", higher, i, x.number, got, want)
		}
		missing, e := m.Missing(3)
		for k := range missing {
			missing[k] = (missing[k] - higher) & 65535
		}
		if e != api.OK || !slices.Equal(missing, x.missing) {
			t.Fatalf("higher by %d, step %d, number %d: Missing = %v, %d, want %v", higher, i, x.number, missing, e, x.missing)
		}
	}
}

var comings = map[string][]coming{
	"the first, and what is behind it": {
		{100, 'p', 0, nil}, {100, 'd', 0, nil}, {99, 'd', 0, nil}, {93, 'd', 0, nil}, {92, 'l', 0, nil},
	},
	"one by one": {
		{100, 'p', 0, nil}, {101, 'p', 0, nil}, {102, 'p', 0, nil}, {101, 'd', 0, nil},
	},
	"some between, that come in any order": {
		{100, 'p', 0, nil}, {104, 'p', 0, []int{101, 102, 103}}, {102, 'p', 0, []int{101, 103}},
		{102, 'd', 0, []int{101, 103}}, {103, 'p', 0, []int{101}}, {106, 'p', 0, []int{101, 105}},
		{101, 'p', 0, []int{105}}, {101, 'd', 0, []int{105}}, {105, 'p', 0, nil}, {105, 'd', 0, nil},
	},
	"a step as great as the window": {
		{100, 'p', 0, nil}, {108, 'p', 0, from(101, 7)}, {101, 'p', 0, from(102, 6)}, {100, 'l', 0, from(102, 6)},
	},
	"a step beyond the window": {
		{100, 'p', 0, nil}, {102, 'p', 0, []int{101}}, {111, 'p', 1, nil}, {110, 'd', 0, nil}, {104, 'd', 0, nil}, {103, 'l', 0, nil},
	},
	"given up one by one": {
		{100, 'p', 0, nil}, {104, 'p', 0, from(101, 3)}, {108, 'p', 0, []int{101, 102, 103, 105, 106, 107}},
		{109, 'p', 1, []int{102, 103, 105, 106, 107}}, {101, 'l', 0, []int{102, 103, 105, 106, 107}},
		{102, 'p', 0, []int{103, 105, 106, 107}}, {110, 'p', 0, []int{103, 105, 106, 107}},
		{113, 'p', 2, []int{106, 107, 111, 112}},
	},
	"given up by a step as great as the window": {
		{100, 'p', 0, nil}, {107, 'p', 0, from(101, 6)}, {115, 'p', 6, from(108, 7)},
	},
	"the farthest ahead": {
		{100, 'p', 0, nil}, {102, 'p', 0, []int{101}}, {102 + 32767, 'p', 1, nil}, {102, 'l', 0, nil},
	},
	"one more is behind": {
		{100, 'p', 0, nil}, {102, 'p', 0, []int{101}}, {102 + 32768, 'l', 0, []int{101}}, {102 + 32769, 'l', 0, []int{101}},
	},
	"round and round": {
		{0, 'p', 0, nil}, {32767, 'p', 0, nil}, {65534, 'p', 0, nil}, {65536 + 32765, 'p', 0, nil},
		{65536 + 65532, 'p', 0, nil}, {65534, 'p', 0, []int{65533}},
	},
}

func TestP6WhatAPacketIs(t *testing.T) {
	for name, list := range comings {
		t.Run(name, func(t *testing.T) {
			for _, higher := range []int{0, 1, 5000, 32667, 32668, 65400, 65428, 65430, 65433, 65434, 65435} {
				checkComings(t, usual, higher, list)
			}
		})
	}
}

func TestP6NarrowestWindow(t *testing.T) {
	narrow := usual
	narrow.Window = 1
	for _, higher := range []int{0, 65434, 65435, 65436} {
		checkComings(t, narrow, higher, []coming{
			{100, 'p', 0, nil}, {100, 'd', 0, nil}, {99, 'l', 0, nil}, {101, 'p', 0, nil},
			{103, 'p', 0, nil}, {102, 'l', 0, nil}, {103, 'd', 0, nil},
		})
	}
}

func TestP6WidestWindow(t *testing.T) {
	wide := usual
	wide.Window = 200
	for _, higher := range []int{0, 65300, 65436} {
		checkComings(t, wide, higher, []coming{
			{100, 'p', 0, nil}, {300, 'p', 0, from(101, 199)}, {101, 'p', 0, from(102, 198)},
			{301, 'p', 0, from(102, 198)}, {302, 'p', 1, from(103, 197)}, {103, 'p', 0, from(104, 196)},
			{503, 'p', 196, nil},
		})
	}
}

func TestP6SendersAreApart(t *testing.T) {
	m := made(t, usual)
	addSenders(t, m, 3, 4)
	for _, x := range [][2]int{{3, 100}, {4, 50}, {3, 102}, {4, 53}, {4, 51}, {3, 102}} {
		if _, e := m.Packet(numbered(t, x[0], x[1])); e != api.OK {
			t.Errorf("Packet %d of %d = %d", x[1], x[0], e)
		}
	}
	for source, want := range map[int][]int{3: {101}, 4: {52}} {
		if got, e := m.Missing(source); e != api.OK || !slices.Equal(got, want) {
			t.Errorf("Missing(%d) = %v, %d, want %v", source, got, e, want)
		}
	}
	if got, want := m.Look(), (api.State{Tokens: 100, Passed: 5, Doubled: 1}); got != want {
		t.Errorf("Look() = %+v, want %+v", got, want)
	}
}

func TestP6NoPacketAndNoSender(t *testing.T) {
	m := made(t, usual)
	addSenders(t, m, 3)
	addWant(t, m, 3, pair(7, 8))
	m.Packet(numbered(t, 3, 1))
	m.Packet(numbered(t, 3, 3))
	want := api.State{Tokens: 100, Passed: 2}
	for _, c := range []struct {
		text           string
		e              api.Errno
		wrong, unknown int
	}{
		{"", api.ErrForm, 1, 0},
		{numbered(t, 3, 2)[:11], api.ErrForm, 2, 0},
		{"\x40" + numbered(t, 3, 2)[1:], api.ErrForm, 3, 0},
		{numbered(t, 3, 2) + noughts(1500), api.ErrForm, 4, 0},
		{numbered(t, 5, 2)[:3], api.ErrForm, 5, 0},
		{numbered(t, 5, 2), api.ErrNone, 5, 1},
		{numbered(t, 7, 2), api.ErrNone, 5, 2},
		{numbered(t, 8, 2), api.ErrNone, 5, 3},
	} {
		want.Wrong, want.Unknown = c.wrong, c.unknown
		if out, e := m.Packet(c.text); len(out) != 0 || e != c.e {
			t.Errorf("Packet(%x) = %q, %d, want %d", c.text, out, e, c.e)
		}
		if got := m.Look(); got != want {
			t.Errorf("Packet(%x): Look() = %+v, want %+v", c.text, got, want)
		}
	}
	if missing, e := m.Missing(3); e != api.OK || !slices.Equal(missing, []int{2}) {
		t.Errorf("Missing(3) = %v, %d", missing, e)
	}
}

func TestP8MissingOfNone(t *testing.T) {
	m := made(t, usual)
	addSenders(t, m, 3)
	addWant(t, m, 3, pair(7, 8))
	for _, source := range []int{-1, 0, 4, 7, 8, 1 << 32, 1<<32 + 3} {
		if list, e := m.Missing(source); len(list) != 0 || e != api.ErrNone {
			t.Errorf("Missing(%d) = %v, %d", source, list, e)
		}
	}
	if list, e := m.Missing(3); len(list) != 0 || e != api.OK {
		t.Errorf("Missing of a sender that sent nothing = %v, %d", list, e)
	}
}
