package mender

import (
	"reflect"
	"slices"
	"strings"
	"testing"

	"mender/api"
)

// goes checks what goes to the wants for a packet: each whole.
func goes(t *testing.T, m *Mender, text string, want ...string) {
	t.Helper()
	if out, e := m.Packet(text); e != api.OK || !slices.Equal(out, want) {
		t.Errorf("Packet(%x) = %x, %d, want %x", text, out, e, want)
	}
}

// as is a packet with the source, type and number of a want.
func as(t testing.TB, x api.Packet, source, kind, number int) string {
	t.Helper()
	x.Source, x.Type, x.Number = source, kind, number
	return told(t, x)
}

func TestP6Example3(t *testing.T) {
	m := made(t, api.Config{Ring: 4, Window: 8, Retry: 1})
	addSenders(t, m, 3)
	addWant(t, m, 3, api.Want{Source: 7, Second: 8, Type: 100, SecondType: 101, First: 1000, SecondFirst: 2000})
	x := api.Packet{Payload: "ab"}
	missing := func(want ...int) {
		t.Helper()
		if got, e := m.Missing(3); e != api.OK || !slices.Equal(got, want) {
			t.Errorf("Missing(3) = %v, %d, want %v", got, e, want)
		}
	}
	goes(t, m, as(t, x, 3, 96, 1), as(t, x, 7, 100, 1000))
	missing()
	goes(t, m, as(t, x, 3, 96, 4), as(t, x, 7, 100, 1003))
	missing(2, 3)
	goes(t, m, as(t, x, 3, 96, 2), as(t, x, 7, 100, 1001))
	missing(3)
	goes(t, m, as(t, x, 3, 96, 2))
	missing(3)
	if got, want := m.Look(), (api.State{Passed: 3, Doubled: 1}); got != want {
		t.Errorf("Look() = %+v, want %+v", got, want)
	}
}

// All but source, type and number goes on as it came, at any length.
func TestP6WholePackets(t *testing.T) {
	list := append(longCases(), packetCases...)
	list = append(list, packetCase{name: "1500 bytes with padding", x: api.Packet{Payload: strings.Repeat("p", 1233), Padding: 255}})
	for _, c := range list {
		m := made(t, usual)
		addSenders(t, m, c.x.Source)
		addWant(t, m, c.x.Source, api.Want{Source: 7, Second: 8, Type: 0, First: 0})
		addWant(t, m, c.x.Source, api.Want{Source: 9, Second: 10, Type: 127, First: 65535})
		goes(t, m, told(t, c.x), as(t, c.x, 7, 0, 0), as(t, c.x, 9, 127, 65535))
	}
}

// The first that goes to a want has its first number, and the others are as
// far from it as they were, ahead or behind, round on either side.
func TestP6NumbersOfWants(t *testing.T) {
	for _, first := range []int{0, 3, 1000, 32768, 65533, 65535} {
		for _, began := range []int{0, 2, 40000, 65534, 65535} {
			m := made(t, usual)
			addSenders(t, m, 3)
			m.Packet(numbered(t, 3, began-4))
			m.Packet(numbered(t, 3, began-1)) // two ahead of the first that goes are missing
			addWant(t, m, 3, api.Want{Source: 7, Second: 8, First: first})
			for _, far := range []int{0, 3, -2, 1, -3, 4, 5, 100, 30000, 60000, 65535, 65537} {
				number := (first + far) & 65535
				x := api.Packet{Payload: "x"}
				goes(t, m, numbered(t, 3, began+far), as(t, x, 7, 0, number))
			}
		}
	}
}

func TestP6WantsInOrder(t *testing.T) {
	m := made(t, usual)
	addSenders(t, m, 3, 4)
	for i, of := range []int{3, 4, 3, 3} {
		addWant(t, m, of, api.Want{Source: 20 - i, Second: 30 + i, Type: i, First: 100 * i})
	}
	x := api.Packet{Payload: "x"}
	goes(t, m, numbered(t, 3, 5), as(t, x, 20, 0, 0), as(t, x, 18, 2, 200), as(t, x, 17, 3, 300))
	goes(t, m, numbered(t, 4, 9), as(t, x, 19, 1, 100))
	m.DropWant(1)
	addWant(t, m, 3, api.Want{Source: 20, Second: 30, Type: 0, First: 7})
	goes(t, m, numbered(t, 3, 6), as(t, x, 18, 2, 201), as(t, x, 17, 3, 301), as(t, x, 20, 0, 7))
	m.DropWant(4)
	goes(t, m, numbered(t, 3, 8), as(t, x, 18, 2, 203), as(t, x, 20, 0, 9))
	goes(t, m, numbered(t, 3, 7), as(t, x, 18, 2, 202), as(t, x, 20, 0, 8))
	goes(t, m, numbered(t, 3, 7))
	m.DropWant(3)
	m.DropWant(5)
	goes(t, m, numbered(t, 3, 9))
	goes(t, m, numbered(t, 4, 10), as(t, x, 19, 1, 101))
	if got, want := m.Look(), (api.State{Tokens: 100, Passed: 7, Doubled: 1}); got != want {
		t.Errorf("Look() = %+v, want %+v: each packet is counted once", got, want)
	}
}

// A want that comes late is told nothing of what went before it.
func TestP6NothingForLateAndDoubled(t *testing.T) {
	m := made(t, usual)
	addSenders(t, m, 3)
	goes(t, m, numbered(t, 3, 100))
	addWant(t, m, 3, api.Want{Source: 7, Second: 8, First: 500})
	goes(t, m, numbered(t, 3, 100))
	goes(t, m, numbered(t, 3, 92))
	goes(t, m, numbered(t, 3, 105), as(t, api.Packet{Payload: "x"}, 7, 0, 500))
}

func TestP2PassedOnIsNewMemory(t *testing.T) {
	m := made(t, usual)
	addSenders(t, m, 3)
	addWant(t, m, 3, api.Want{Source: 7, Second: 8, First: 500})
	addWant(t, m, 3, api.Want{Source: 9, Second: 10, First: 600})
	x := api.Packet{Payload: "x"}
	before, _ := m.Packet(numbered(t, 3, 1))
	spoiled, _ := m.Packet(numbered(t, 3, 2))
	spoil(spoiled, "spoiled")
	goes(t, m, numbered(t, 3, 3), as(t, x, 7, 0, 502), as(t, x, 9, 0, 602))
	if want := []string{as(t, x, 7, 0, 500), as(t, x, 9, 0, 600)}; !reflect.DeepEqual(before, want) {
		t.Errorf("before = %x, want %x", before, want)
	}
}

func TestP2MissingIsNewMemory(t *testing.T) {
	m := made(t, usual)
	addSenders(t, m, 3)
	m.Packet(numbered(t, 3, 1))
	m.Packet(numbered(t, 3, 5))
	before, _ := m.Missing(3)
	spoiled, _ := m.Missing(3)
	spoil(spoiled, 77)
	m.Packet(numbered(t, 3, 3))
	after, _ := m.Missing(3)
	if !slices.Equal(before, []int{2, 3, 4}) || !slices.Equal(after, []int{2, 4}) {
		t.Errorf("before %v, after %v", before, after)
	}
}

// What one mender answers hangs on no other.
func TestP2MendersAreApart(t *testing.T) {
	one, other := made(t, usual), made(t, usual)
	addSenders(t, one, 3)
	addWant(t, one, 3, pair(7, 8))
	one.Packet(numbered(t, 3, 5))
	one.Packet("")
	if got, want := other.Look(), (api.State{Tokens: 100}); got != want {
		t.Errorf("Look() of the other = %+v", got)
	}
	addSenders(t, other, 7, 3)
	if id := addWant(t, other, 3, pair(8, 9)); id != 1 {
		t.Errorf("first want of the other has the id %d", id)
	}
	goes(t, other, numbered(t, 3, 5), as(t, api.Packet{Payload: "x"}, 8, 0, 0))
}
